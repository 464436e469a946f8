package stage

import (
	"reflect"
	"slices"
	"strings"
	"testing"

	"postilion/api"
	"postilion/entry"
	"postilion/value"
)

// id is an ID.
func id(n uint64) api.ID { return api.ID{Broker: 1, Life: 2, Serial: n} }

// p is an event of one number.
func p(n int64) api.Event { return api.Event{{Name: "p", Value: value.Int(n)}} }

// pub is an entry of some events; sub is one of a filter.
func pub(n uint64, l ...api.Event) api.Entry {
	return api.Entry{Kind: api.EPublish, ID: id(n), Client: 3, Events: l}
}

func sub(n uint64) api.Entry {
	return api.Entry{Kind: api.ESub, ID: id(n), Sub: 7, Filter: api.Filter{{Name: "p", Op: api.TIs}}}
}

// some are transactions: 1 is open, 2 asked for, 3 a subscription, 4 open.
func some() []api.Txn {
	return []api.Txn{{Entry: pub(1, p(1))}, {Entry: pub(2, p(2), p(3)), Asked: true}, {Entry: sub(3), Asked: true}, {Entry: pub(4)}}
}

// many are n transactions that are open.
func many(n int) []api.Txn {
	var l []api.Txn
	for i := range n {
		l = append(l, api.Txn{Entry: pub(uint64(i + 1))})
	}
	return l
}

// sized is an event that lets an entry, whose first events are given, have just so many bytes.
func sized(t *testing.T, before []api.Event, want int) api.Event {
	t.Helper()
	var e api.Event
	bytes := func(a api.Attr) int {
		b, _ := entry.Encode(pub(1, append(slices.Clone(before), append(slices.Clone(e), a))...))
		return len(b)
	}
	attr := func(i, name, text int) api.Attr {
		return api.Attr{Name: strings.Repeat(string(rune('a'+i)), name), Value: value.Text(strings.Repeat("x", text))}
	}
	for i := range api.MaxAttrs {
		full := attr(i, api.MaxName, api.MaxText)
		for long := 0; bytes(full) >= want && long < api.MaxName*(api.MaxText+1); long++ {
			if a := attr(i, 1+long%api.MaxName, long/api.MaxName); bytes(a) == want {
				return append(e, a)
			}
		}
		e = append(e, full)
	}
	t.Fatalf("no entry has %d bytes", want)
	return nil
}

// heavy are two events; with a third one of the right size there are just so many bytes as an entry may have.
func heavy() []api.Event {
	var e api.Event
	for i := range api.MaxAttrs {
		e = append(e, api.Attr{Name: strings.Repeat(string(rune('a'+i)), api.MaxName), Value: value.Text(strings.Repeat("x", api.MaxText))})
	}
	return []api.Event{e, e}
}

// P17.1: Begin.
func TestBegin(t *testing.T) {
	l, told := Begin(some(), id(5), 6)
	want := append(some(), api.Txn{Entry: api.Entry{Kind: api.EPublish, ID: id(5), Client: 6}})
	if told != api.OK || !reflect.DeepEqual(l, want) {
		t.Errorf("%v, %d", l, told)
	}
	for i, c := range []struct {
		l      []api.Txn
		id     api.ID
		client int
		want   api.Errno
	}{
		{some(), id(4), 0, api.ErrTxn}, {some(), id(2), 0, api.ErrTxn}, {many(8), id(8), 99, api.ErrTxn},
		{some(), id(5), -1, api.ErrEntry}, {some(), id(5), api.MaxClients, api.ErrEntry}, {many(8), api.ID{Broker: 16}, 0, api.ErrEntry},
		{many(8), id(9), 0, api.ErrMany}, {many(9), id(10), 0, api.ErrMany},
	} {
		if got, told := Begin(c.l, c.id, c.client); told != c.want || !reflect.DeepEqual(got, c.l) {
			t.Errorf("%d: %v, %d", i, got, told)
		}
	}
	if l, told := Begin(many(7), id(8), 31); told != api.OK || len(l) != 8 {
		t.Errorf("the last one: %d", told)
	}
}

// P17.1: Ask.
func TestAsk(t *testing.T) {
	for _, x := range []api.Entry{sub(5), pub(5, p(1)), {Kind: api.EUnsub, ID: id(5), Sub: 7}} {
		l, told := Ask(some(), x)
		if told != api.OK || !reflect.DeepEqual(l, append(some(), api.Txn{Entry: x, Asked: true})) {
			t.Errorf("%v, %d", l, told)
		}
	}
	full := append(heavy(), sized(t, heavy(), api.MaxBig))
	over := append(heavy(), sized(t, heavy(), api.MaxBig+1))
	if l, told := Ask(nil, pub(1, full...)); told != api.OK || len(l) != 1 {
		t.Errorf("just so many bytes: %d", told)
	}
	for i, c := range []struct {
		l    []api.Txn
		x    api.Entry
		want api.Errno
	}{
		{some(), sub(1), api.ErrTxn}, {some(), api.Entry{ID: id(3)}, api.ErrTxn},
		{some(), api.Entry{ID: id(5)}, api.ErrEntry}, {many(8), pub(9, nil), api.ErrEntry},
		{many(8), sub(9), api.ErrMany}, {many(8), pub(9, over...), api.ErrMany},
		{some(), pub(5, over...), api.ErrBig},
	} {
		if got, told := Ask(c.l, c.x); told != c.want || !reflect.DeepEqual(got, c.l) {
			t.Errorf("%d: %v, %d", i, got, told)
		}
	}
}

// P17.2: Publish.
func TestPublish(t *testing.T) {
	l, told := Publish(some(), id(1), p(9))
	want := some()
	want[0].Entry = pub(1, p(1), p(9))
	if told != api.OK || !reflect.DeepEqual(l, want) {
		t.Errorf("%v, %d", l, told)
	}
	eight := []api.Txn{{Entry: pub(1, slices.Repeat([]api.Event{p(1)}, 8)...)}}
	seven := []api.Txn{{Entry: pub(1, slices.Repeat([]api.Event{p(1)}, 7)...)}}
	if l, told := Publish(seven, id(1), p(1)); told != api.OK || !reflect.DeepEqual(l, eight) {
		t.Errorf("the last event: %d", told)
	}
	big := []api.Txn{{Entry: pub(1, heavy()...)}}
	fits, over := sized(t, heavy(), api.MaxBig), sized(t, heavy(), api.MaxBig+1)
	if l, told := Publish(big, id(1), fits); told != api.OK || len(l[0].Entry.Events) != 3 {
		t.Errorf("just so many bytes: %d", told)
	}
	bigger := slices.Repeat([]api.Event{heavy()[0]}, 8)
	first := []api.Txn{{Entry: sub(1), Asked: true}, {Entry: pub(1)}}
	for i, c := range []struct {
		l    []api.Txn
		id   api.ID
		e    api.Event
		want api.Errno
	}{
		{some(), id(2), p(1), api.ErrTxn}, {some(), id(3), p(1), api.ErrTxn}, {some(), id(9), nil, api.ErrTxn}, {nil, id(1), p(1), api.ErrTxn}, {first, id(1), p(1), api.ErrTxn},
		{some(), id(1), nil, api.ErrEvent}, {eight, id(1), api.Event{{Name: "P"}}, api.ErrEvent},
		{eight, id(1), p(1), api.ErrMany}, {[]api.Txn{{Entry: pub(1, bigger...)}}, id(1), p(1), api.ErrMany},
		{big, id(1), over, api.ErrBig},
	} {
		if got, told := Publish(c.l, c.id, c.e); told != c.want || !reflect.DeepEqual(got, append([]api.Txn(nil), c.l...)) {
			t.Errorf("%d: %v, %d", i, got, told)
		}
	}
}

// P17.2: Commit and Abort.
func TestCommit(t *testing.T) {
	want := some()
	want[3].Asked = true
	if l, told := Commit(some(), id(4)); told != api.OK || !reflect.DeepEqual(l, want) {
		t.Errorf("%v, %d", l, told)
	}
	if l, told := Abort(some(), id(1)); told != api.OK || !reflect.DeepEqual(l, some()[1:]) {
		t.Errorf("%v, %d", l, told)
	}
	for _, n := range []uint64{2, 3, 9} {
		l, told := Commit(some(), id(n))
		m, told2 := Abort(some(), id(n))
		if told != api.ErrTxn || told2 != api.ErrTxn || !reflect.DeepEqual(l, some()) || !reflect.DeepEqual(m, some()) {
			t.Errorf("%d: %v, %d, %v, %d", n, l, told, m, told2)
		}
	}
}

// P17.3: Settle, Asks and Find.
func TestSettle(t *testing.T) {
	for n := range uint64(6) {
		var want []api.Txn
		for _, x := range some() {
			if x.Entry.ID != id(n) {
				want = append(want, x)
			}
		}
		if l := Settle(some(), id(n)); !reflect.DeepEqual(l, want) {
			t.Errorf("%d: %v", n, l)
		}
		x, is := Find(some(), id(n))
		if is != (n >= 1 && n <= 4) || is && !reflect.DeepEqual(x, some()[n-1]) || !is && !reflect.DeepEqual(x, api.Txn{}) {
			t.Errorf("%d: %v, %v", n, x, is)
		}
	}
	twice := []api.Txn{{Entry: sub(1), Asked: true}, {Entry: pub(1)}, {Entry: pub(2)}}
	if l := Settle(twice, id(1)); !reflect.DeepEqual(l, twice[1:]) {
		t.Errorf("the first one of two: %v", l)
	}
	if l := Asks(some()); !reflect.DeepEqual(l, []api.Entry{some()[1].Entry, sub(3)}) {
		t.Errorf("%v", l)
	}
	l := many(8)
	for i := 1; i < 8; i++ {
		l[i].Asked = true
	}
	if got := Asks(l); !reflect.DeepEqual(got, []api.Entry{pub(2), pub(3), pub(4), pub(5)}) {
		t.Errorf("the first %d: %v", api.MaxAsks, got)
	}
	if got := Asks(many(3)); len(got) != 0 {
		t.Errorf("none: %v", got)
	}
}

// P17.4: the document's example; a transaction that was asked for does not change.
func TestExample(t *testing.T) {
	l, a := Begin(nil, id(1), 0)
	l, b := Publish(l, id(1), p(1))
	l, c := Commit(l, id(1))
	want, _ := Find(l, id(1))
	l, d := Publish(l, id(1), p(1))
	l, e := Abort(l, id(1))
	l, f := Commit(l, id(1))
	if a != api.OK || b != api.OK || c != api.OK || d != api.ErrTxn || e != api.ErrTxn || f != api.ErrTxn {
		t.Error(a, b, c, d, e, f)
	}
	if got, is := Find(l, id(1)); !is || !reflect.DeepEqual(got, want) || !got.Asked || len(got.Entry.Events) != 1 {
		t.Errorf("now %v", got)
	}
}

// R4: answers, those beside an error, too, share no memory with anything.
func TestOwnMemory(t *testing.T) {
	l, e, x := some(), p(7), sub(9)
	spoil := func(l []api.Txn) {
		for i := range l {
			for _, e := range l[i].Entry.Events {
				e[0].Name = "z"
			}
			for j := range l[i].Entry.Filter {
				l[i].Entry.Filter[j].Name = "z"
			}
			l[i].Asked = !l[i].Asked
		}
		_ = append(l, api.Txn{}, api.Txn{})
	}
	for _, n := range []uint64{1, 2, 9} {
		a, _ := Begin(l[:3], id(n), 0)
		b, _ := Publish(l[:3], id(n), e)
		c, _ := Commit(l[:3], id(n))
		d, _ := Abort(l[:3], id(n))
		f, _ := Ask(l[:3], x)
		for _, got := range [][]api.Txn{a, b, c, d, f, Settle(l[:3], id(n))} {
			spoil(got)
		}
		one, _ := Find(l, id(n))
		spoil([]api.Txn{one})
		for _, x := range Asks(l) {
			spoil([]api.Txn{{Entry: x}})
		}
	}
	if !reflect.DeepEqual(l, some()) || !reflect.DeepEqual(e, p(7)) || !reflect.DeepEqual(x, sub(9)) {
		t.Errorf("now %v, %v, %v", l, e, x)
	}
}

// R1: transactions that may not be.
func TestMayNot(t *testing.T) {
	l := []api.Txn{{Entry: api.Entry{Kind: 99, Client: -5, Events: []api.Event{nil}}}, {}}
	Begin(l, api.ID{}, 0)
	Commit(l, api.ID{})
	Abort(l, api.ID{})
	Ask(l, api.Entry{})
	Asks(l)
	if got, told := Publish(l, api.ID{}, p(1)); told != api.OK || len(got[0].Entry.Events) != 2 {
		t.Errorf("%v, %d", got, told)
	}
}
