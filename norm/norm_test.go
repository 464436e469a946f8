package norm

import (
	"math"
	"math/rand"
	"slices"
	"testing"

	"postilion/api"
	"postilion/filter"
	"postilion/value"
)

// of is a test of p.
func of(op int, v api.Value) api.Test { return api.Test{Name: "p", Op: op, Value: v} }

// values are some of each Kind, in order.
func values() []api.Value {
	var l []api.Value
	for n := int64(-2); n <= 2; n++ {
		l = append(l, value.Int(n))
	}
	for _, s := range []string{"", "a", "aa", "ab", "abc", "b"} {
		l = append(l, value.Text(s))
	}
	return append(l, value.Bool(false), value.Bool(true))
}

// tests are all of p with these values.
func tests() []api.Test {
	l := []api.Test{of(api.TIs, api.Value{})}
	for _, v := range values() {
		for op := api.TEq; op <= api.TGe; op++ {
			l = append(l, of(op, v))
		}
		if v.Kind == api.VText {
			l = append(l, of(api.TPrefix, v))
		}
	}
	return l
}

// P6.1: each row of what is implied, for values ahead of the other's, the same, and behind it.
func TestImplies(t *testing.T) {
	rows := map[[2]int][3]bool{ // v < w, v = w, v > w
		{api.TEq, api.TEq}: {false, true, false}, {api.TEq, api.TNe}: {true, false, true}, {api.TEq, api.TLt}: {true, false, false},
		{api.TEq, api.TLe}: {true, true, false}, {api.TEq, api.TGt}: {false, false, true}, {api.TEq, api.TGe}: {false, true, true},
		{api.TNe, api.TNe}: {false, true, false},
		{api.TLt, api.TLt}: {true, true, false}, {api.TLt, api.TLe}: {true, true, false}, {api.TLt, api.TNe}: {true, true, false},
		{api.TLe, api.TLe}: {true, true, false}, {api.TLe, api.TLt}: {true, false, false}, {api.TLe, api.TNe}: {true, false, false},
		{api.TGt, api.TGt}: {false, true, true}, {api.TGt, api.TGe}: {false, true, true}, {api.TGt, api.TNe}: {false, true, true},
		{api.TGe, api.TGe}: {false, true, true}, {api.TGe, api.TGt}: {false, false, true}, {api.TGe, api.TNe}: {false, false, true},
	}
	w := value.Int(5)
	for a := api.TEq; a <= api.TGe; a++ {
		for b := api.TEq; b <= api.TGe; b++ {
			for i, v := range []api.Value{value.Int(4), w, value.Int(6)} {
				if is := Implies(of(a, v), of(b, w)); is != rows[[2]int{a, b}][i] {
					t.Errorf("%d of %d, %d of 5: %v", a, v.N, b, is)
				}
			}
		}
	}
}

// P6.1: what beginnings of texts imply.
func TestImpliesPrefix(t *testing.T) {
	for i, c := range []struct {
		v    string
		op   int
		w    string
		want bool
	}{
		{"ab", api.TPrefix, "a", true}, {"ab", api.TPrefix, "ab", true}, {"a", api.TPrefix, "ab", false}, {"ab", api.TPrefix, "b", false},
		{"ab", api.TGe, "ab", true}, {"ab", api.TGe, "aa", true}, {"ab", api.TGe, "b", false},
		{"ab", api.TGt, "ab", false}, {"ab", api.TGt, "a", true},
		{"ab", api.TNe, "abc", false}, {"ab", api.TNe, "ab", false}, {"ab", api.TNe, "a", true}, {"ab", api.TNe, "z", true},
		{"ab", api.TLt, "b", false}, {"ab", api.TLe, "b", false}, {"ab", api.TEq, "ab", false},
	} {
		if is := Implies(of(api.TPrefix, value.Text(c.v)), of(c.op, value.Text(c.w))); is != c.want {
			t.Errorf("%d: %v", i, is)
		}
	}
	if !Implies(of(api.TEq, value.Text("ab")), of(api.TPrefix, value.Text("a"))) || Implies(of(api.TGe, value.Text("ab")), of(api.TPrefix, value.Text("a"))) {
		t.Error("what implies a beginning")
	}
}

// P6.1: names, TIs, Kinds, and Ops that are none.
func TestImpliesEdges(t *testing.T) {
	is := of(api.TIs, api.Value{})
	for i, c := range []struct {
		a, b api.Test
		want bool
	}{
		{is, is, true},
		{of(api.TNe, value.Int(1)), is, true},
		{is, of(api.TNe, value.Int(1)), false},
		{of(api.TIs, value.Int(1)), of(api.TLe, value.Int(1)), false},
		{of(api.TEq, value.Int(1)), of(api.TIs, value.Int(7)), true},
		{of(api.TEq, value.Int(1)), api.Test{Name: "q", Op: api.TIs}, false},
		{api.Test{Name: "q", Op: api.TIs}, is, false},
		{of(api.TLt, value.Int(1)), of(api.TLt, value.Text("a")), false},
		{of(api.TEq, value.Int(1)), of(api.TNe, value.Text("a")), false},
		{of(0, value.Int(1)), of(0, value.Int(1)), false},
		{of(9, value.Int(1)), of(9, value.Int(1)), false},
		{of(0, value.Int(1)), is, false},
		{is, of(9, api.Value{}), false},
		{of(math.MinInt, value.Int(1)), of(api.TEq, value.Int(1)), false},
		{of(api.TEq, value.Int(1)), of(math.MaxInt, value.Int(1)), false},
		{of(api.TPrefix, value.Int(1)), of(api.TNe, value.Int(2)), true},
		{of(api.TEq, api.Value{Kind: 7}), of(api.TLe, api.Value{Kind: 7, N: 1}), true},
	} {
		if is := Implies(c.a, c.b); is != c.want {
			t.Errorf("%d: %v", i, is)
		}
	}
}

// P6.4: what a test implies holds where it holds.
func TestImpliedHolds(t *testing.T) {
	for _, a := range tests() {
		for _, b := range tests() {
			for _, v := range values() {
				if Implies(a, b) && filter.Is(a, v) && !filter.Is(b, v) {
					t.Errorf("%v implies %v, but not of %v", a, b, v)
				}
			}
		}
	}
}

// P6.2: the order of tests.
func TestOrder(t *testing.T) {
	l := []api.Test{
		{Name: "", Op: 9}, {Name: "a", Op: -1}, {Name: "a", Op: 8}, of(1, value.Int(-1)), of(1, value.Int(4)), of(1, value.Text("a")), of(2, value.Int(-5)), of(8, api.Value{}), {Name: "pa", Op: 1}, {Name: "q"},
	}
	for i, a := range l {
		for j, b := range l {
			want := 0
			if i < j {
				want = -1
			} else if i > j {
				want = 1
			}
			if n := Order(a, b); n != want {
				t.Errorf("%v against %v: %d", a, b, n)
			}
		}
	}
}

// P6.3: what stays of a filter.
func TestNorm(t *testing.T) {
	is := of(api.TIs, api.Value{})
	a := api.Test{Name: "a", Op: api.TIs}
	for i, c := range []struct{ f, want api.Filter }{
		{nil, nil},
		{api.Filter{is, of(api.TLt, value.Int(9)), of(api.TLt, value.Int(5)), a}, api.Filter{a, of(api.TLt, value.Int(5))}},
		{api.Filter{is, is, is}, api.Filter{is}},
		{api.Filter{of(api.TEq, value.Int(5)), of(api.TGe, value.Int(5)), of(api.TNe, value.Int(4))}, api.Filter{of(api.TEq, value.Int(5))}},
		{api.Filter{of(api.TGe, value.Int(5)), of(api.TLe, value.Int(5))}, api.Filter{of(api.TLe, value.Int(5)), of(api.TGe, value.Int(5))}},
		{api.Filter{of(api.TNe, value.Int(5)), of(api.TNe, value.Int(4))}, api.Filter{of(api.TNe, value.Int(4)), of(api.TNe, value.Int(5))}},
		{api.Filter{of(0, value.Int(5)), of(0, value.Int(5)), is}, api.Filter{of(0, value.Int(5)), of(0, value.Int(5)), is}},
		// Two that imply each other: of those the last one stays.
		{api.Filter{of(api.TIs, value.Int(2)), of(api.TIs, value.Int(1))}, api.Filter{of(api.TIs, value.Int(2))}},
		{api.Filter{of(api.TEq, value.Bool(true)), of(api.TPrefix, value.Text("a")), of(api.TPrefix, value.Text("ab")), of(api.TGe, value.Text("aa"))}, api.Filter{of(api.TEq, value.Bool(true)), of(api.TPrefix, value.Text("ab"))}},
	} {
		if got := Norm(c.f); !slices.Equal(got, c.want) {
			t.Errorf("%d: %v", i, got)
		}
	}
}

// P6.4: a filter and its norm match the same; a norm's norm is it; no test of it implies another one.
func TestNormSame(t *testing.T) {
	r := rand.New(rand.NewSource(6))
	all := tests()
	for range 3000 {
		var f api.Filter
		for range r.Intn(6) {
			x := all[r.Intn(len(all))]
			x.Name = string(rune('p' + r.Intn(2)))
			f = append(f, x)
		}
		g := Norm(f)
		if again := Norm(g); !slices.Equal(again, g) {
			t.Fatalf("%v: its norm's norm is %v", f, again)
		}
		for i, a := range g {
			for j, b := range g {
				if i != j && Implies(a, b) {
					t.Fatalf("%v: %v implies %v", f, a, b)
				}
			}
		}
		e := api.Event{{Name: "p", Value: values()[r.Intn(13)]}, {Name: "q", Value: values()[r.Intn(13)]}}
		if filter.Matches(f, e) != filter.Matches(g, e) {
			t.Fatalf("%v and %v do not match %v alike", f, g, e)
		}
	}
}

// R4: the filter is left alone, and the norm shares nothing with it.
func TestOwnMemory(t *testing.T) {
	f := api.Filter{of(api.TLt, value.Int(5)), of(api.TEq, value.Int(1)), of(api.TEq, value.Text("b")), of(8, api.Value{})}
	keep := slices.Clone(f)
	g := Norm(f[:3])
	clear(g[:cap(g)])
	if !slices.Equal(f, keep) {
		t.Errorf("now %v", f)
	}
}
