package table

import (
	"math/rand"
	"reflect"
	"slices"
	"testing"

	"postilion/api"
	"postilion/cover"
	"postilion/value"
)

// is is a filter of one name; over is one of p.
func is(name string) api.Filter { return api.Filter{{Name: name, Op: api.TIs}} }

func over(n int64) api.Filter { return api.Filter{{Name: "p", Op: api.TGt, Value: value.Int(n)}} }

// sub and unsub are entries of a client.
func sub(client int, n uint64, f api.Filter) api.Entry {
	return api.Entry{Kind: api.ESub, Client: client, Sub: n, Filter: f}
}

func unsub(client int, n uint64) api.Entry {
	return api.Entry{Kind: api.EUnsub, Client: client, Sub: n}
}

// p and q are events.
func p(n int64) api.Event { return api.Event{{Name: "p", Value: value.Int(n)}} }

func q(n int64) api.Event { return api.Event{{Name: "q", Value: value.Int(n)}} }

// applied are the subscriptions behind some entries.
func applied(l ...api.Entry) []api.Subscription {
	var s []api.Subscription
	for _, x := range l {
		s = Apply(s, x)
	}
	return s
}

// P15.1: Apply.
func TestApply(t *testing.T) {
	s := applied(sub(2, 5, is("a")), sub(1, 7, is("b")), sub(2, 3, is("c")), sub(1, 9, is("d")), sub(0, 8, nil), sub(2, 4, is("e")))
	want := []api.Subscription{{Client: 0, Sub: 8}, {Client: 1, Sub: 7, Filter: is("b")}, {Client: 1, Sub: 9, Filter: is("d")}, {Client: 2, Sub: 3, Filter: is("c")}, {Client: 2, Sub: 4, Filter: is("e")}, {Client: 2, Sub: 5, Filter: is("a")}}
	if !reflect.DeepEqual(s, want) {
		t.Errorf("%v", s)
	}
	want[2].Filter = over(3)
	if got := Apply(s, sub(1, 9, over(3))); !reflect.DeepEqual(got, want) {
		t.Errorf("in another one's place: %v", got)
	}
	if got := Apply(s, sub(0, 8, is("z"))); len(got) != len(s) || !reflect.DeepEqual(got[0].Filter, is("z")) {
		t.Errorf("in the first one's place: %v", got)
	}
	want[2].Filter = nil
	if got := Apply(s, sub(1, 9, nil)); !reflect.DeepEqual(got, want) {
		t.Errorf("a filter without a test: %v", got)
	}
	if got := Apply(s, unsub(2, 9)); !reflect.DeepEqual(got, s) {
		t.Errorf("none of these: %v", got)
	}
	if got := Apply(s, unsub(1, 7)); !reflect.DeepEqual(got, slices.Delete(slices.Clone(s), 1, 2)) {
		t.Errorf("an end: %v", got)
	}
	for _, x := range []api.Entry{{Kind: api.EPublish, Client: 1, Sub: 7}, {Kind: 0, Client: 1, Sub: 7}, {Kind: 4, Client: 1, Sub: 7, Filter: is("z")}} {
		if got := Apply(s, x); !reflect.DeepEqual(got, s) {
			t.Errorf("Kind %d: %v", x.Kind, got)
		}
	}
	if got := applied(sub(1, 7, is("p")), unsub(1, 7)); len(got) != 0 {
		t.Errorf("one and its end: %v", got)
	}
}

// P15.2: Filters.
func TestFilters(t *testing.T) {
	s := applied(sub(0, 1, over(5)), sub(1, 1, is("q")), sub(1, 2, over(3)), sub(2, 1, over(1)), sub(3, 1, nil))
	for i, c := range []struct {
		clients []int
		want    []api.Filter
	}{
		{nil, nil}, {[]int{9, -1}, nil},
		{[]int{0}, []api.Filter{over(5)}},
		{[]int{1, 0}, []api.Filter{is("q"), over(3)}},
		{[]int{0, 1, 2, 1}, []api.Filter{is("q"), over(1)}},
		{[]int{0, 1, 2, 3}, []api.Filter{nil}},
	} {
		if got := Filters(s, c.clients); !reflect.DeepEqual(got, c.want) {
			t.Errorf("%d: %v", i, got)
		}
	}
}

// P15.2: Cut and Batch.
func TestCut(t *testing.T) {
	s := applied(sub(0, 1, over(5)), sub(1, 1, is("q")), sub(1, 2, over(3)), sub(2, 1, is("r")))
	x := api.Entry{Kind: api.EPublish, ID: api.ID{Broker: 1, Life: 2, Serial: 3}, Client: 4, Events: []api.Event{p(6), p(4), q(1), p(3), p(9)}}
	for i, c := range []struct {
		clients []int
		want    []api.Event
	}{
		{nil, nil}, {[]int{2}, nil}, {[]int{9}, nil},
		{[]int{0}, []api.Event{p(6), p(9)}},
		{[]int{1}, []api.Event{p(6), p(4), q(1), p(9)}},
		{[]int{0, 2}, []api.Event{p(6), p(9)}},
		{[]int{2, 1, 0}, []api.Event{p(6), p(4), q(1), p(9)}},
	} {
		want := x
		want.Events = c.want
		if got := Cut(s, c.clients, x); !reflect.DeepEqual(got, want) {
			t.Errorf("%d: %v", i, got)
		}
		if len(c.clients) == 1 {
			if got := Batch(s, c.clients[0], x); !reflect.DeepEqual(got, c.want) {
				t.Errorf("%d: the batch %v", i, got)
			}
		}
	}
	for _, x := range []api.Entry{sub(0, 1, over(2)), unsub(0, 1), {Kind: 7, Events: []api.Event{p(1)}}, {Kind: api.ESub, Events: []api.Event{p(9)}}} {
		if got := Cut(s, nil, x); !reflect.DeepEqual(got, x) {
			t.Errorf("Kind %d is cut: %v", x.Kind, got)
		}
		if got := Batch(s, 0, x); len(got) != 0 {
			t.Errorf("Kind %d: the batch %v", x.Kind, got)
		}
	}
}

// any1 are subscriptions, and an entry, that chance makes.
func any1(r *rand.Rand) ([]api.Subscription, api.Entry) {
	var s []api.Subscription
	for range r.Intn(12) {
		f := over(int64(r.Intn(6)))
		f[0].Op = 1 + r.Intn(6)
		if r.Intn(3) == 0 {
			f = append(f, is("q")...)
		}
		s = Apply(s, sub(r.Intn(4), uint64(r.Intn(3)), f))
	}
	x := api.Entry{Kind: api.EPublish}
	for range r.Intn(6) {
		e := p(int64(r.Intn(6)))
		if r.Intn(2) == 0 {
			e = append(e, q(1)...)
		}
		x.Events = append(x.Events, e)
	}
	return s, x
}

// P15.3: what is cut leaves each client its batch, and may be cut again.
func TestCutAgain(t *testing.T) {
	r := rand.New(rand.NewSource(15))
	for range 2000 {
		s, x := any1(r)
		more := []int{0, 1, 2, 3}[:1+r.Intn(4)]
		fewer := more[:r.Intn(len(more)+1)]
		wide := Cut(s, more, x)
		for _, c := range more {
			if a, b := Batch(s, c, wide), Batch(s, c, x); !reflect.DeepEqual(a, b) {
				t.Fatalf("the batch %v, not %v", a, b)
			}
		}
		if a, b := Cut(s, fewer, wide), Cut(s, fewer, x); !reflect.DeepEqual(a, b) {
			t.Fatalf("cut twice %v, once %v", a, b)
		}
		var slow []api.Event
		for _, e := range x.Events {
			if slices.ContainsFunc(s, func(o api.Subscription) bool { return o.Client == 1 && cover.Any([]api.Filter{o.Filter}, e) }) {
				slow = append(slow, e)
			}
		}
		if got := Batch(s, 1, x); !reflect.DeepEqual(got, slow) {
			t.Fatalf("the batch %v, not %v", got, slow)
		}
	}
}

// R4: answers are in memory of their own.
func TestOwnMemory(t *testing.T) {
	make1 := func() ([]api.Subscription, api.Entry, api.Entry) {
		s := []api.Subscription{{Client: 0, Sub: 1, Filter: is("p")}, {Client: 1, Sub: 1, Filter: is("q")}, {Client: 2, Sub: 1, Filter: is("r")}}
		return s, sub(0, 1, append(is("a"), is("b")...)), api.Entry{Kind: api.EPublish, Events: []api.Event{p(1), q(2)}}
	}
	s, x, pub := make1()
	for _, y := range []api.Entry{x, unsub(0, 1), pub, sub(0, 0, is("x"))} {
		got := Apply(s[:2], y)
		for i := range got {
			if len(got[i].Filter) > 0 {
				got[i].Filter[0].Name = "z"
			}
			_ = append(got[i].Filter, is("z")...)
		}
		_ = append(got, api.Subscription{})
		clear(got)
	}
	Filters(s, []int{0, 1})[0][0].Name = "z"
	Cut(s, []int{0}, x).Filter[0].Name = "z"
	Cut(s, []int{0, 1}, pub).Events[0][0].Name = "z"
	Batch(s, 0, pub)[0][0].Name = "z"
	s2, x2, pub2 := make1()
	if !reflect.DeepEqual(s, s2) || !reflect.DeepEqual(x, x2) || !reflect.DeepEqual(pub, pub2) {
		t.Errorf("now %v, %v, %v", s, x, pub)
	}
}

// R1: subscriptions that may not be get some answer.
func TestMayNot(t *testing.T) {
	s := []api.Subscription{{Client: 5}, {Client: -1, Sub: 3}, {Client: 5}, {Client: 5, Filter: api.Filter{{Op: 99}}}}
	for _, x := range []api.Entry{sub(5, 0, nil), sub(-1, 3, nil), sub(2, 2, is("")), unsub(5, 0), {}} {
		Apply(s, x)
		Cut(s, []int{5}, x)
		Batch(s, 5, x)
	}
	Filters(s, []int{5, -1})
}
