package index

import (
	"math"
	"math/rand"
	"reflect"
	"slices"
	"testing"

	"postilion/api"
	"postilion/filter"
	"postilion/value"
)

// of is a test of p.
func of(op int, n int64) api.Test { return api.Test{Name: "p", Op: op, Value: value.Int(n)} }

// is is a test of any name.
func is(name string) api.Test { return api.Test{Name: name, Op: api.TIs} }

// p is an event of one number.
func p(n int64) api.Event { return api.Event{{Name: "p", Value: value.Int(n)}} }

// P8.1, P8.2: the document's example.
func TestExample(t *testing.T) {
	x := New()
	if x.Add(7, api.Filter{of(api.TGt, 3)}) != api.OK || x.Add(5, nil) != api.OK {
		t.Fatal("filters are refused")
	}
	if l := x.Match(p(4)); !slices.Equal(l, []uint64{5, 7}) {
		t.Errorf("p 4: %v", l)
	}
	if l := x.Match(api.Event{{Name: "q", Value: value.Int(4)}}); !slices.Equal(l, []uint64{5}) {
		t.Errorf("q 4: %v", l)
	}
	if x.Add(7, nil) != api.ErrIndex || x.Drop(9) != api.ErrIndex || x.Count() != 2 {
		t.Error("a number that is known, and one that is not")
	}
}

// P8.1: which errors come first, and what they leave.
func TestErrors(t *testing.T) {
	x := New()
	bad := api.Filter{of(9, 1)}
	if x.Add(1, bad) != api.ErrFilter || x.Count() != 0 || x.Drop(1) != api.ErrIndex {
		t.Error("a filter that may not be")
	}
	for id := range uint64(api.MaxFilters) {
		if told := x.Add(math.MaxUint64-id, api.Filter{of(api.TGe, int64(id))}); told != api.OK {
			t.Fatalf("%d: %d", id, told)
		}
	}
	if x.Add(1, nil) != api.ErrIndex || x.Add(1, bad) != api.ErrFilter || x.Add(math.MaxUint64, bad) != api.ErrFilter {
		t.Error("one too many")
	}
	if x.Count() != api.MaxFilters || len(x.Match(p(0))) != 1 || len(x.Match(p(1<<40))) != api.MaxFilters {
		t.Error("the index is changed")
	}
	if x.Drop(math.MaxUint64) != api.OK || x.Add(0, nil) != api.OK || x.Add(1, nil) != api.ErrIndex {
		t.Error("the room of one that was dropped")
	}
}

// P8.2: Filter and Count.
func TestFilter(t *testing.T) {
	x := New()
	f := api.Filter{of(api.TGt, 3), is("q")}
	x.Add(4, f)
	x.Add(6, nil)
	if g, known := x.Filter(4); !known || !reflect.DeepEqual(g, f) {
		t.Errorf("%v, %v", g, known)
	}
	if g, known := x.Filter(6); !known || len(g) != 0 {
		t.Errorf("%v, %v", g, known)
	}
	if g, known := x.Filter(5); known || len(g) != 0 {
		t.Errorf("%v, %v", g, known)
	}
	x.Drop(4)
	if g, known := x.Filter(4); known || len(g) != 0 || x.Count() != 1 {
		t.Errorf("%v, %v", g, known)
	}
}

// P8.2: of attributes of one name only the first is asked; a test that stands twice counts twice.
func TestTwice(t *testing.T) {
	x := New()
	x.Add(1, api.Filter{of(api.TEq, 1)})
	x.Add(2, api.Filter{of(api.TEq, 2)})
	x.Add(3, api.Filter{of(api.TEq, 1), of(api.TEq, 1), is("p")})
	x.Add(4, api.Filter{of(api.TEq, 1), of(api.TEq, 2)})
	if l := x.Match(append(p(1), p(2)...)); !slices.Equal(l, []uint64{1, 3}) {
		t.Errorf("%v", l)
	}
	x.Add(5, api.Filter{is("q")})
	if l := x.Match(append(append(p(2), p(1)...), api.Attr{Name: "q", Value: value.Int(1)})); !slices.Equal(l, []uint64{2, 5}) {
		t.Errorf("behind one that stands twice: %v", l)
	}
	if l := x.Match(nil); len(l) != 0 {
		t.Errorf("of no event: %v", l)
	}
}

// some is a filter that chance makes.
func some(r *rand.Rand) api.Filter {
	var f api.Filter
	for range r.Intn(4) {
		x := of(1+r.Intn(6), int64(r.Intn(4)))
		x.Name = string(rune('p' + r.Intn(3)))
		f = append(f, x)
	}
	return f
}

// matches are the numbers of the filters that match, asked one by one.
func matches(l map[uint64]api.Filter, e api.Event) []uint64 {
	var out []uint64
	for id, f := range l {
		if filter.Matches(f, e) {
			out = append(out, id)
		}
	}
	slices.Sort(out)
	return out
}

// P8.2, P8.3: in whatever order filters come and go, those match that match one by one.
func TestAny(t *testing.T) {
	r := rand.New(rand.NewSource(8))
	x, l := New(), map[uint64]api.Filter{}
	for range 4000 {
		id := uint64(r.Intn(40))
		_, known := l[id]
		if r.Intn(2) == 0 {
			f := some(r)
			if told := x.Add(id, f); (told == api.OK) == known {
				t.Fatalf("Add is told %d", told)
			}
			if !known {
				l[id] = slices.Clone(f)
			}
			clear(f)
		} else {
			if told := x.Drop(id); (told == api.OK) != known {
				t.Fatalf("Drop is told %d", told)
			}
			delete(l, id)
		}
		e := api.Event{{Name: "p", Value: value.Int(int64(r.Intn(4)))}, {Name: "q", Value: value.Int(int64(r.Intn(4)))}}
		if got := x.Match(e); !slices.Equal(got, matches(l, e)) || x.Count() != len(l) {
			t.Fatalf("%v: %v, not %v", e, got, matches(l, e))
		}
	}
}

// P8.3, R4: a filter that was added, or answered, can be changed outside.
func TestOwnMemory(t *testing.T) {
	x := New()
	f := api.Filter{of(api.TEq, 1), is("q")}
	x.Add(1, f[:1])
	f[0] = is("z")
	g, _ := x.Filter(1)
	g[0] = is("y")
	_ = append(g, is("y"))
	if l := x.Match(p(1)); !slices.Equal(l, []uint64{1}) || f[1] != is("q") {
		t.Errorf("%v", l)
	}
	if g, _ := x.Filter(1); !reflect.DeepEqual(g, api.Filter{of(api.TEq, 1)}) {
		t.Errorf("now %v", g)
	}
	x.Drop(1)
	if l := x.Match(p(1)); len(l) != 0 {
		t.Errorf("dropped: %v", l)
	}
}

// R1: no index, and one that New did not make.
func TestNil(t *testing.T) {
	var x *Index
	f, known := x.Filter(1)
	if x.Add(1, api.Filter{of(9, 1)}) != api.ErrArg || x.Drop(1) != api.ErrArg || len(x.Match(p(1))) != 0 || len(f) != 0 || known || x.Count() != 0 {
		t.Error("no index")
	}
	x = &Index{}
	if len(x.Match(p(1))) != 0 || x.Drop(1) != api.ErrIndex || x.Add(1, nil) != api.OK || len(x.Match(p(1))) != 1 {
		t.Error("an empty index")
	}
}
