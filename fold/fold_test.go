package fold

import (
	"math"
	"math/rand"
	"reflect"
	"slices"
	"testing"

	"postilion/api"
	"postilion/entry"
	"postilion/own"
	"postilion/value"
)

// id is an ID.
func id(n uint64) api.ID { return api.ID{Broker: 1, Life: 2, Serial: n} }

// x is an entry with an event.
func x(n uint64) api.Entry {
	return api.Entry{Kind: api.EPublish, ID: id(n), Events: []api.Event{{{Name: "p", Value: value.Int(int64(n))}}}}
}

// life, listed, promised, aborted and forgotten are records.
func life(n uint64) api.Record              { return api.Record{Kind: api.RLife, N: n} }
func listed(at uint64, n uint64) api.Record { return api.Record{Kind: api.REntry, N: at, Entry: x(n)} }
func promised(n uint64) api.Record          { return api.Record{Kind: api.RPromise, Entry: x(n)} }
func aborted(n uint64) api.Record           { return api.Record{Kind: api.RAbort, ID: id(n)} }
func forgotten(n uint64) api.Record         { return api.Record{Kind: api.RForget, ID: id(n)} }

// some is a state: 1 and 2 are listed, 3 and 4 promised, 5 aborted.
func some() api.State {
	return api.State{Life: 3, List: []api.Entry{x(1), x(2)}, Promises: []api.Entry{x(3), x(4)}, Aborted: []api.ID{id(5)}}
}

// P16.1: what a state has.
func TestHas(t *testing.T) {
	for n := range uint64(7) {
		s := some()
		if Has(s, id(n)) != (n == 1 || n == 2) || Promised(s, id(n)) != (n == 3 || n == 4) || Aborted(s, id(n)) != (n == 5) {
			t.Errorf("%d: %v, %v, %v", n, Has(s, id(n)), Promised(s, id(n)), Aborted(s, id(n)))
		}
	}
	for _, o := range []api.ID{{Broker: 2, Life: 2, Serial: 1}, {Broker: 1, Life: 1, Serial: 1}} {
		if Has(some(), o) {
			t.Errorf("it has %v", o)
		}
	}
}

// P16.2: what each record does.
func TestStep(t *testing.T) {
	for i, c := range []struct {
		r    api.Record
		want api.State
	}{
		{life(4), api.State{Life: 4, List: some().List, Promises: some().Promises, Aborted: some().Aborted}},
		{life(math.MaxUint64), api.State{Life: math.MaxUint64, List: some().List, Promises: some().Promises, Aborted: some().Aborted}},
		{listed(2, 6), api.State{Life: 3, List: []api.Entry{x(1), x(2), x(6)}, Promises: some().Promises, Aborted: some().Aborted}},
		{listed(2, 3), api.State{Life: 3, List: []api.Entry{x(1), x(2), x(3)}, Promises: []api.Entry{x(4)}, Aborted: some().Aborted}},
		{promised(6), api.State{Life: 3, List: some().List, Promises: []api.Entry{x(3), x(4), x(6)}, Aborted: some().Aborted}},
		{aborted(6), api.State{Life: 3, List: some().List, Promises: some().Promises, Aborted: []api.ID{id(5), id(6)}}},
		{aborted(4), api.State{Life: 3, List: some().List, Promises: []api.Entry{x(3)}, Aborted: []api.ID{id(5), id(4)}}},
		{forgotten(3), api.State{Life: 3, List: some().List, Promises: []api.Entry{x(4)}, Aborted: some().Aborted}},
	} {
		if s, told := Step(some(), c.r); told != api.OK || !reflect.DeepEqual(s, c.want) {
			t.Errorf("%d: %v, %d", i, s, told)
		}
	}
	twice := api.State{Promises: []api.Entry{x(3), x(4), x(3)}}
	if s, told := Step(twice, forgotten(3)); told != api.OK || len(s.Promises) != 1 {
		t.Errorf("a promise that stands twice: %v, %d", s, told)
	}
}

// P16.2: records that do not go on, or may not be: the state is as it was.
func TestStepErrors(t *testing.T) {
	for i, c := range []struct {
		r    api.Record
		want api.Errno
	}{
		{life(3), api.ErrFold}, {life(2), api.ErrFold}, {life(0), api.ErrFold},
		{listed(1, 6), api.ErrFold}, {listed(3, 6), api.ErrFold}, {listed(2, 1), api.ErrFold}, {listed(2, 5), api.ErrFold}, {listed(math.MaxUint64, 6), api.ErrFold},
		{promised(1), api.ErrFold}, {promised(3), api.ErrFold}, {promised(5), api.ErrFold},
		{aborted(2), api.ErrFold}, {aborted(5), api.ErrFold},
		{forgotten(1), api.ErrFold}, {forgotten(5), api.ErrFold}, {forgotten(6), api.ErrFold},
		{api.Record{}, api.ErrEntry}, {api.Record{Kind: 6}, api.ErrEntry}, {api.Record{Kind: -1}, api.ErrEntry},
		{api.Record{Kind: api.RLife, N: 1, ID: id(1)}, api.ErrEntry},
		{api.Record{Kind: api.RPromise, N: 1, Entry: x(1)}, api.ErrEntry},
		{api.Record{Kind: api.REntry, N: 9}, api.ErrEntry},
		{api.Record{Kind: api.RAbort, ID: api.ID{Broker: 16}}, api.ErrEntry},
	} {
		if s, told := Step(some(), c.r); told != c.want || !reflect.DeepEqual(s, some()) {
			t.Errorf("%d: %v, %d", i, s, told)
		}
	}
}

// packed are records' bytes.
func packed(t *testing.T, l ...api.Record) [][]byte {
	t.Helper()
	var out [][]byte
	for _, r := range l {
		b, told := entry.Pack(r)
		if told != api.OK {
			t.Fatal(told)
		}
		out = append(out, b)
	}
	return out
}

// none tells whether a state is empty.
func none(s api.State) bool {
	return s.Life == 0 && len(s.List) == 0 && len(s.Promises) == 0 && len(s.Aborted) == 0
}

// P16.3: All.
func TestAll(t *testing.T) {
	if s, told := All(nil); told != api.OK || !none(s) {
		t.Errorf("of none: %v, %d", s, told)
	}
	s, told := All(packed(t, life(1), promised(1), listed(0, 1)))
	if told != api.OK || s.Life != 1 || !reflect.DeepEqual(s.List, []api.Entry{x(1)}) || len(s.Promises) != 0 {
		t.Errorf("the example: %v, %d", s, told)
	}
	if _, told := Step(s, listed(0, 2)); told != api.ErrFold {
		t.Errorf("behind it: %d", told)
	}
	for i, c := range []struct {
		l    [][]byte
		want api.Errno
	}{
		{packed(t, life(1), life(1)), api.ErrFold},
		{packed(t, listed(0, 1), listed(0, 2)), api.ErrFold},
		{append(packed(t, life(1)), []byte{9}), api.ErrEntry},
		{append(append(packed(t, life(1)), nil), packed(t, life(1))...), api.ErrEntry},
		{append(packed(t, life(1), life(1)), nil), api.ErrFold},
	} {
		if s, told := All(c.l); told != c.want || !none(s) {
			t.Errorf("%d: %v, %d", i, s, told)
		}
	}
}

// P16.3: Records, in their order.
func TestRecords(t *testing.T) {
	want := packed(t, life(3), listed(0, 1), listed(1, 2), promised(3), promised(4), aborted(5))
	if l, told := Records(some()); told != api.OK || !reflect.DeepEqual(l, want) {
		t.Errorf("%v, %d", l, told)
	}
	if l, told := Records(api.State{}); told != api.OK || len(l) != 0 {
		t.Errorf("of none: %v, %d", l, told)
	}
	for i, s := range []api.State{{Life: 1, List: []api.Entry{{}}}, {Promises: []api.Entry{{Kind: 9}}}, {List: []api.Entry{x(1)}, Aborted: []api.ID{{Broker: -1}}}} {
		if l, told := Records(s); told != api.ErrEntry || len(l) != 0 {
			t.Errorf("%d: %v, %d", i, l, told)
		}
	}
}

// any1 is a record that chance makes, of few IDs, so that many do not go on.
func any1(r *rand.Rand, s api.State) api.Record {
	n := uint64(r.Intn(12))
	switch r.Intn(5) {
	case 0:
		return life(s.Life + uint64(r.Intn(3)))
	case 1:
		return promised(n)
	case 2:
		return aborted(n)
	case 3:
		return forgotten(n)
	}
	return listed(uint64(len(s.List)+r.Intn(5)/4), n)
}

// P16.2 to P16.4: a state is what its records tell; a list only grows; no ID is there twice.
func TestAny(t *testing.T) {
	r := rand.New(rand.NewSource(16))
	for range 300 {
		var s api.State
		var l []api.Record
		for range 30 {
			one := any1(r, s)
			was := own.State(s)
			next, told := Step(s, one)
			if !reflect.DeepEqual(s, was) || told != api.OK && !reflect.DeepEqual(next, s) {
				t.Fatalf("%v is told %d, and changes a state", one, told)
			}
			if told == api.OK {
				l = append(l, one)
			}
			if len(next.List) < len(s.List) || len(s.List) > 0 && !reflect.DeepEqual(next.List[:len(s.List)], s.List) {
				t.Fatalf("%v lets the list shrink", one)
			}
			s = next
		}
		all, told := All(packed(t, l...))
		if told != api.OK || !same(all, s) {
			t.Fatalf("%v, %d, not %v", all, told, s)
		}
		b, _ := Records(s)
		again, told := All(b)
		if told != api.OK || !same(again, s) {
			t.Fatalf("again %v, %d, not %v", again, told, s)
		}
		seen := slices.Clone(s.Aborted)
		for _, x := range slices.Concat(s.List, s.Promises) {
			seen = append(seen, x.ID)
		}
		slices.SortFunc(seen, func(a, b api.ID) int { return int(a.Serial) - int(b.Serial) })
		if len(slices.Compact(seen)) != len(s.List)+len(s.Promises)+len(s.Aborted) {
			t.Fatalf("an ID is there twice: %v", s)
		}
	}
}

// same tells whether two states are alike; lists without elements are.
func same(a, b api.State) bool { return reflect.DeepEqual(own.State(a), own.State(b)) }

// R4: states share no memory.
func TestOwnMemory(t *testing.T) {
	s := some()
	r := promised(6)
	next, _ := Step(s, r)
	next.List[0].Events[0][0].Name = "z"
	next.Promises[0].Events[0][0].Name = "z"
	next.Promises[2].Events[0][0].Name = "z"
	next.Aborted[0] = api.ID{}
	next, _ = Step(s, forgotten(3))
	next.Promises[0] = api.Entry{}
	next, _ = Step(s, life(1))
	next.List[0].Events[0][0].Name = "z"
	if !reflect.DeepEqual(s, some()) || !reflect.DeepEqual(r, promised(6)) {
		t.Errorf("now %v, %v", s, r)
	}
	b := packed(t, listed(0, 1))
	all, _ := All(b)
	clear(b[0])
	if !reflect.DeepEqual(all.List, []api.Entry{x(1)}) {
		t.Errorf("now %v", all)
	}
}
