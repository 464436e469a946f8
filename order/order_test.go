package order

import (
	"math"
	"math/rand"
	"reflect"
	"slices"
	"testing"

	"postilion/api"
	"postilion/value"
	"postilion/vote"
)

// id is an ID.
func id(n uint64) api.ID { return api.ID{Broker: 1, Life: 2, Serial: n} }

// pub is an entry with an event; sub is a subscription; pubs are some.
func pub(n uint64) api.Entry {
	return api.Entry{Kind: api.EPublish, ID: id(n), Events: []api.Event{{{Name: "p", Value: value.Int(int64(n))}}}}
}

func sub(n uint64) api.Entry {
	return api.Entry{Kind: api.ESub, ID: id(n), Filter: api.Filter{{Name: "p", Op: api.TIs}}}
}

func pubs(l ...uint64) []api.Entry {
	var out []api.Entry
	for _, n := range l {
		out = append(out, pub(n))
	}
	return out
}

// ids are some IDs.
func ids(l ...uint64) []api.ID {
	var out []api.ID
	for _, n := range l {
		out = append(out, id(n))
	}
	return out
}

// P19.1: what is opened, and what is listed at once.
func TestAdmit(t *testing.T) {
	end := api.Entry{Kind: api.EUnsub, ID: id(8)}
	s := api.State{List: pubs(1), Promises: pubs(2), Aborted: ids(3)}
	for i, c := range []struct {
		open, asks, waits, listed []api.Entry
	}{
		{nil, nil, nil, nil},
		{nil, []api.Entry{pub(5), sub(6)}, pubs(5), []api.Entry{sub(6)}},
		{pubs(4), pubs(1, 2, 3, 4, 5, 5, 2), pubs(4, 2, 5), nil},
		{nil, []api.Entry{sub(7), end, sub(7), sub(1), sub(3)}, nil, []api.Entry{sub(7), end}},
		{pubs(4), []api.Entry{sub(4)}, pubs(4), nil},
		{nil, []api.Entry{pub(6), sub(6), sub(7), pub(7)}, pubs(6), []api.Entry{sub(7)}},
		{nil, []api.Entry{pub(11), pub(12), sub(20), pub(13), pub(14), pub(15), sub(21), pub(16)}, pubs(11, 12, 13, 14), []api.Entry{sub(20), sub(21)}},
		{pubs(11, 12, 13, 14, 15), append(pubs(16, 17), sub(17)), pubs(11, 12, 13, 14, 15), []api.Entry{sub(17)}},
		{pubs(11, 12, 13), pubs(14, 15), pubs(11, 12, 13, 14), nil},
		{pubs(5, 5), pubs(5, 6), pubs(5, 5, 6), nil},
		{nil, []api.Entry{{Kind: 9, ID: id(6)}}, nil, []api.Entry{{Kind: 9, ID: id(6)}}},
	} {
		if w, l := Admit(s, c.open, c.asks); !reflect.DeepEqual(w, c.waits) || !reflect.DeepEqual(l, c.listed) {
			t.Errorf("%d: %v, %v", i, w, l)
		}
	}
}

// report is one: of numbers above 0 with a yes, of those below with a no.
func report(l ...int) api.Message {
	m := api.Message{Kind: api.MReport}
	for _, n := range l {
		m.Votes = append(m.Votes, api.Vote{ID: id(uint64(max(n, -n))), Yes: n > 0})
	}
	return m
}

// P19.2: what is decided.
func TestDecide(t *testing.T) {
	for i, c := range []struct {
		open        []api.Entry
		kids        []api.Message
		yes, others []api.Entry
		no          []api.ID
	}{
		{nil, nil, nil, nil, nil},
		{pubs(1, 2), nil, pubs(1, 2), nil, nil},
		{pubs(1, 2), []api.Message{report(1, -2)}, pubs(1), nil, ids(2)},
		{pubs(4, 3, 2, 1), []api.Message{report(1, 2, 3), report(-3, 1, -4)}, pubs(1), pubs(2), ids(4, 3)},
		{pubs(3, 1, 2), []api.Message{report(1, 2, 3), {}}, nil, pubs(3, 1, 2), nil},
		{pubs(2, 1, 2), []api.Message{report(2)}, pubs(2, 2), pubs(1), nil},
	} {
		y, n, o := Decide(c.open, c.kids)
		if !reflect.DeepEqual(y, c.yes) || !reflect.DeepEqual(n, c.no) || !reflect.DeepEqual(o, c.others) {
			t.Errorf("%d: %v, %v, %v", i, y, n, o)
		}
	}
}

// P19.3: what is told aborted, and what is sent of a list.
func TestTold(t *testing.T) {
	var all, first []uint64
	for n := range uint64(20) {
		all = append(all, n, n)
		if n < api.MaxList {
			first = append(first, n)
		}
	}
	for i, c := range []struct {
		aborted []api.ID
		asks    []api.Entry
		want    []api.ID
	}{
		{nil, pubs(1), nil}, {ids(1), nil, nil},
		{ids(1, 2, 3), []api.Entry{pub(3), sub(5), sub(1), pub(3)}, ids(3, 1)},
		{ids(3, 3), pubs(3, 3), ids(3)},
		{ids(all...), pubs(all...), ids(first...)},
	} {
		if got := Told(c.aborted, c.asks); !reflect.DeepEqual(got, c.want) {
			t.Errorf("%d: %v", i, got)
		}
	}
	l := pubs(0, 1, 2, 3, 4, 5)
	for have, want := range map[uint64][]api.Entry{0: l[:4], 1: l[1:5], 2: l[2:], 3: l[3:], 5: l[5:], 6: nil, 7: nil, 1 << 63: nil, math.MaxUint64: nil} {
		if got := From(l, have); !reflect.DeepEqual(got, want) {
			t.Errorf("from %d: %v", have, got)
		}
	}
	if got := From(nil, 0); len(got) != 0 {
		t.Errorf("of none: %v", got)
	}
}

// P19.4: none is listed or opened twice; what is decided is of what was open.
func TestOnce(t *testing.T) {
	r := rand.New(rand.NewSource(19))
	pick := func(n int) []api.Entry {
		var l []api.Entry
		for range r.Intn(n) {
			x := pub(uint64(r.Intn(12)))
			if r.Intn(3) == 0 {
				x = sub(uint64(r.Intn(12)))
			}
			l = append(l, x)
		}
		return l
	}
	for range 3000 {
		s := api.State{List: pick(3), Aborted: ids(uint64(r.Intn(12)))}
		waits, listed := Admit(s, nil, pick(20))
		var seen []uint64
		for _, x := range slices.Concat(waits, listed) {
			if slices.Contains(seen, x.ID.Serial) || x.ID == s.Aborted[0] || slices.ContainsFunc(s.List, func(y api.Entry) bool { return x.ID == y.ID }) {
				t.Fatalf("%v is taken again", x.ID)
			}
			seen = append(seen, x.ID.Serial)
		}
		if len(waits) > api.MaxPrepares {
			t.Fatalf("%d wait", len(waits))
		}
		kids := []api.Message{report(r.Intn(23)-11, r.Intn(23)-11, r.Intn(23)-11)}
		yes, no, others := Decide(waits, kids)
		if len(yes)+len(no)+len(others) != len(waits) {
			t.Fatal("some are lost")
		}
		for _, x := range yes {
			if vote.Says(kids, x.ID) != 1 {
				t.Fatalf("%v is agreed", x.ID)
			}
		}
	}
}

// R4: answers are in memory of their own.
func TestOwnMemory(t *testing.T) {
	open, asks := pubs(1, 2), []api.Entry{pub(3), sub(4)}
	w, l := Admit(api.State{}, open[:1], asks)
	y, _, _ := Decide(open[:1], nil)
	_, _, o := Decide(open[:1], []api.Message{{}})
	f := From(open[:1], 0)
	for _, x := range slices.Concat(w, l, y, o, f) {
		for _, e := range x.Events {
			e[0].Name = "z"
		}
		for i := range x.Filter {
			x.Filter[i].Name = "z"
		}
	}
	for _, got := range [][]api.Entry{w, l, y, o, f} {
		_ = append(got, api.Entry{})
	}
	if !reflect.DeepEqual(open, pubs(1, 2)) || !reflect.DeepEqual(asks, []api.Entry{pub(3), sub(4)}) {
		t.Errorf("now %v, %v", open, asks)
	}
}
