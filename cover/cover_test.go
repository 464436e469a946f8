package cover

import (
	"math/rand"
	"reflect"
	"testing"

	"postilion/api"
	"postilion/filter"
	"postilion/value"
)

// of is a test of p.
func of(op int, n int64) api.Test { return api.Test{Name: "p", Op: op, Value: value.Int(n)} }

// is is a test of any name.
func is(name string) api.Test { return api.Test{Name: name, Op: api.TIs} }

// P7.1: which filters cover which.
func TestCovers(t *testing.T) {
	for i, c := range []struct {
		f, g       api.Filter
		want, back bool
	}{
		{api.Filter{of(api.TGt, 3)}, api.Filter{of(api.TGt, 5), is("q")}, true, false},
		{nil, api.Filter{is("q")}, true, false},
		{nil, nil, true, true},
		{api.Filter{is("p"), is("q")}, api.Filter{is("q"), of(api.TEq, 1)}, true, false},
		{api.Filter{is("p"), is("q")}, api.Filter{is("p")}, false, true},
		{api.Filter{of(api.TGt, 3)}, api.Filter{of(api.TLt, 3)}, false, false},
		{api.Filter{of(api.TGt, 3), of(api.TGt, 4)}, api.Filter{of(api.TGt, 4)}, true, true},
		{api.Filter{of(0, 3)}, api.Filter{of(0, 3)}, false, false},
	} {
		if Covers(c.f, c.g) != c.want || Covers(c.g, c.f) != c.back {
			t.Errorf("%d: %v, %v", i, Covers(c.f, c.g), Covers(c.g, c.f))
		}
	}
}

// P7.2: which filters stay.
func TestReduce(t *testing.T) {
	p5, p3, q := api.Filter{of(api.TGt, 5)}, api.Filter{of(api.TGt, 3)}, api.Filter{is("q")}
	twin := api.Filter{of(api.TGt, 3), is("p")}
	for i, c := range []struct{ l, want []api.Filter }{
		{nil, nil},
		{[]api.Filter{p5, q, p3}, []api.Filter{q, p3}},
		{[]api.Filter{p3, q, p5}, []api.Filter{p3, q}},
		{[]api.Filter{q, q, q}, []api.Filter{q}},
		{[]api.Filter{p3, twin, q}, []api.Filter{twin, q}},
		{[]api.Filter{twin, q, p3}, []api.Filter{q, p3}},
		{[]api.Filter{p5, nil, q}, []api.Filter{nil}},
		{[]api.Filter{{of(9, 1)}, {of(9, 1)}}, []api.Filter{{of(9, 1)}, {of(9, 1)}}},
	} {
		if got := Reduce(c.l); !reflect.DeepEqual(got, c.want) {
			t.Errorf("%d: %v", i, got)
		}
	}
}

// P7.2: whether one of some filters matches.
func TestAny(t *testing.T) {
	e := api.Event{{Name: "p", Value: value.Int(4)}}
	for i, c := range []struct {
		l    []api.Filter
		want bool
	}{
		{nil, false},
		{[]api.Filter{{is("q")}, {of(api.TGt, 3)}}, true},
		{[]api.Filter{{is("q")}, {of(api.TGt, 4)}}, false},
		{[]api.Filter{{is("q")}, nil}, true},
	} {
		if Any(c.l, e) != c.want {
			t.Errorf("%d: %v", i, !c.want)
		}
	}
}

// some1 is a filter that chance makes.
func some1(r *rand.Rand) api.Filter {
	var f api.Filter
	for range r.Intn(4) {
		x := of(1+r.Intn(6), int64(r.Intn(4)))
		if r.Intn(4) == 0 {
			x = is("p")
		}
		x.Name = string(rune('p' + r.Intn(2)))
		f = append(f, x)
	}
	return f
}

// P7.3: what covers matches as much; reduced filters match just what all did.
func TestReduced(t *testing.T) {
	r := rand.New(rand.NewSource(7))
	for range 2000 {
		var l []api.Filter
		for range r.Intn(6) {
			l = append(l, some1(r))
		}
		less := Reduce(l)
		if again := Reduce(less); !reflect.DeepEqual(again, less) {
			t.Fatalf("%v: reduced again it is %v", less, again)
		}
		for i, f := range less {
			for j, g := range less {
				if i != j && Covers(f, g) {
					t.Fatalf("%v: %v covers %v", l, f, g)
				}
			}
		}
		e := api.Event{{Name: "p", Value: value.Int(int64(r.Intn(4)))}}
		if r.Intn(2) == 0 {
			e = append(e, api.Attr{Name: "q", Value: value.Int(int64(r.Intn(4)))})
		}
		if Any(l, e) != Any(less, e) {
			t.Fatalf("%v and %v do not match %v alike", l, less, e)
		}
		f, g := some1(r), some1(r)
		if Covers(f, g) && filter.Matches(g, e) && !filter.Matches(f, e) {
			t.Fatalf("%v covers %v, but not of %v", f, g, e)
		}
	}
}

// R4: reduced filters share nothing with the filters.
func TestOwnMemory(t *testing.T) {
	l := []api.Filter{{is("p"), is("q")}, {is("r")}, {is("s")}}
	got := Reduce(l[:2])
	got[0][0].Name = "z"
	_ = append(got, api.Filter{is("z")})
	_ = append(got[0], is("z"))
	if !reflect.DeepEqual(l, []api.Filter{{is("p"), is("q")}, {is("r")}, {is("s")}}) {
		t.Errorf("now %v", l)
	}
}
