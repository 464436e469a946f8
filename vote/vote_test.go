package vote

import (
	"math/rand"
	"reflect"
	"slices"
	"testing"

	"postilion/api"
	"postilion/value"
)

// id is an ID.
func id(n uint64) api.ID { return api.ID{Broker: 1, Life: 2, Serial: n} }

// x is an entry with an event; xs are some.
func x(n uint64) api.Entry {
	return api.Entry{Kind: api.EPublish, ID: id(n), Events: []api.Event{{{Name: "p", Value: value.Int(int64(n))}}}}
}

func xs(l ...uint64) []api.Entry {
	var out []api.Entry
	for _, n := range l {
		out = append(out, x(n))
	}
	return out
}

// ids are some IDs.
func ids(l ...uint64) []api.ID {
	var out []api.ID
	for _, n := range l {
		out = append(out, id(n))
	}
	return out
}

// votes are some: of numbers above 0 with a yes, of those below with a no.
func votes(l ...int) []api.Vote {
	var out []api.Vote
	for _, n := range l {
		out = append(out, api.Vote{ID: id(uint64(max(n, -n))), Yes: n > 0})
	}
	return out
}

// report is one of such votes.
func report(l ...int) api.Message { return api.Message{Kind: api.MReport, Votes: votes(l...)} }

// upTo are the numbers from one on, up to another one.
func upTo(from, to uint64) []uint64 {
	var l []uint64
	for n := from; n <= to; n++ {
		l = append(l, n)
	}
	return l
}

// P18.1: what is promised, and what is refused.
func TestPromise(t *testing.T) {
	known := api.State{List: xs(1), Promises: xs(2), Aborted: ids(3)}
	for i, c := range []struct {
		s        api.State
		l        []api.Entry
		promised []api.Entry
		refused  []api.ID
	}{
		{api.State{}, nil, nil, nil},
		{known, xs(1, 2, 3, 4, 5), xs(4, 5), nil},
		{known, xs(4, 4, 5, 4), xs(4, 5), nil},
		{api.State{}, xs(upTo(1, 8)...), xs(upTo(1, 6)...), ids(7, 8)},
		{known, xs(upTo(1, 10)...), xs(upTo(4, 8)...), ids(9, 10)},
		{known, xs(4, 5, 6, 7, 8, 9, 9, 4, 2, 10, 9), xs(4, 5, 6, 7, 8), ids(9, 10)},
		{api.State{Promises: xs(upTo(1, 6)...)}, xs(7, 1, 8), nil, ids(7, 8)},
		{api.State{Promises: xs(upTo(1, 9)...)}, xs(7, 10), nil, ids(10)},
		{api.State{Promises: xs(upTo(1, 5)...)}, xs(7, 8), xs(7), ids(8)},
	} {
		if p, r := Promise(c.s, c.l); !reflect.DeepEqual(p, c.promised) || !reflect.DeepEqual(r, c.refused) {
			t.Errorf("%d: %v, %v", i, p, r)
		}
	}
}

// P18.2: what reports say.
func TestSays(t *testing.T) {
	for i, c := range []struct {
		kids []api.Message
		want int
	}{
		{nil, 1}, {[]api.Message{{}}, 0}, {[]api.Message{report(1)}, 1}, {[]api.Message{report(-1)}, 2}, {[]api.Message{report(2, -3)}, 0},
		{[]api.Message{report(2, 1), report(1)}, 1},
		{[]api.Message{report(1), report(2)}, 0}, {[]api.Message{report(2), report(1)}, 0},
		{[]api.Message{report(1), report(-1)}, 2}, {[]api.Message{{}, report(-1)}, 2}, {[]api.Message{report(-1), {}}, 2},
		{[]api.Message{report(1, -1)}, 2}, {[]api.Message{report(-1, 1), report(1)}, 2}, {[]api.Message{report(1, 1)}, 1},
	} {
		if says := Says(c.kids, id(1)); says != c.want {
			t.Errorf("%d: %d", i, says)
		}
	}
}

// P18.3: the votes that go up.
func TestTally(t *testing.T) {
	all := []api.Message{report(1, 2, -3, 5), report(1, -2, 3, 5)}
	for i, c := range []struct {
		promises []api.Entry
		refused  []api.ID
		kids     []api.Message
		want     []api.Vote
	}{
		{nil, nil, nil, nil},
		{xs(1), ids(2), []api.Message{report(1)}, votes(1, -2)},
		{xs(5, 4, 3, 2, 1), nil, all, votes(5, -3, -2, 1)},
		{xs(4, 3), nil, nil, votes(4, 3)},
		{xs(3, 1), ids(1, 7, 3, 7, 4), all, votes(-3, 1, -7, -4)},
		{xs(4), ids(4), all, votes(-4)},
		{xs(upTo(1, 20)...), ids(30), nil, votes(1, 2, 3, 4, 5, 6, 7, 8, 9, 10, 11, 12, 13, 14, 15, 16)},
		{xs(1), ids(upTo(1, 20)...), nil, votes(1, -2, -3, -4, -5, -6, -7, -8, -9, -10, -11, -12, -13, -14, -15, -16)},
		{xs(1, 1), ids(1), nil, votes(1, 1)},
	} {
		if got := Tally(c.promises, c.refused, c.kids); !reflect.DeepEqual(got, c.want) {
			t.Errorf("%d: %v", i, got)
		}
	}
}

// P18.4: what a kid votes on that is no more.
func TestEnds(t *testing.T) {
	s := api.State{List: xs(1), Promises: xs(2), Aborted: ids(3)}
	many := report()
	for n := range 30 {
		many.Votes = append(many.Votes, votes(n+1, n+1)...)
	}
	for i, c := range []struct {
		open []api.Entry
		kid  api.Message
		want []api.ID
	}{
		{nil, api.Message{}, nil},
		{nil, report(1, 2, 3, 4, -5, -1), ids(3, 4, 5)},
		{xs(4), report(4, 5, -4), ids(5)},
		{nil, report(7, -6, -7, 6, 7), ids(7, 6)},
		{xs(6), many, append(ids(3, 4, 5), ids(upTo(7, 19)...)...)},
	} {
		if got := Ends(s, c.open, c.kid); !reflect.DeepEqual(got, c.want) {
			t.Errorf("%d: %v", i, got)
		}
	}
}

// P18.5: a yes is on what is promised, and of all below; a no goes up.
func TestUp(t *testing.T) {
	r := rand.New(rand.NewSource(18))
	for range 3000 {
		var kids []api.Message
		for range r.Intn(4) {
			m := report()
			for range r.Intn(5) {
				m.Votes = append(m.Votes, api.Vote{ID: id(uint64(r.Intn(5))), Yes: r.Intn(3) > 0})
			}
			kids = append(kids, m)
		}
		promises, refused := xs(upTo(0, uint64(r.Intn(4)))...), ids(upTo(uint64(r.Intn(6)), 5)...)
		got := Tally(promises, refused, kids)
		for _, v := range got {
			promised := slices.ContainsFunc(promises, func(x api.Entry) bool { return x.ID == v.ID })
			for _, m := range kids {
				if v.Yes && (!promised || !slices.Contains(m.Votes, v) || slices.Contains(m.Votes, api.Vote{ID: v.ID})) {
					t.Fatalf("a yes on %v: %v", v.ID, kids)
				}
			}
		}
		for _, x := range promises {
			for _, m := range kids {
				if slices.Contains(m.Votes, api.Vote{ID: x.ID}) && !slices.Contains(got, api.Vote{ID: x.ID}) {
					t.Fatalf("a no on %v is lost", x.ID)
				}
			}
		}
		for _, id := range refused {
			if !slices.ContainsFunc(got, func(v api.Vote) bool { return v.ID == id }) {
				t.Fatalf("no vote on %v", id)
			}
		}
	}
}

// R4: answers are in memory of their own.
func TestOwnMemory(t *testing.T) {
	s, l := api.State{Promises: xs(9)}, xs(1, 2)
	p, _ := Promise(s, l[:1])
	p[0].Events[0][0].Name = "z"
	_ = append(p, api.Entry{})
	kid := report(1, 2, 3)
	e := Ends(s, l, kid)
	_ = append(e, api.ID{})
	e[0] = api.ID{}
	if !reflect.DeepEqual(l, xs(1, 2)) || !reflect.DeepEqual(kid, report(1, 2, 3)) {
		t.Errorf("now %v, %v", l, kid)
	}
}
