package filter

import (
	"bytes"
	"math"
	"reflect"
	"strings"
	"testing"

	"postilion/api"
	"postilion/pack"
	"postilion/value"
)

// test1 is a test of p.
func test1(op int, v api.Value) api.Test { return api.Test{Name: "p", Op: op, Value: v} }

// mayNot are tests that may not be.
func mayNot() []api.Test {
	return []api.Test{
		{}, {Name: "p"}, {Name: "p", Value: value.Int(1)},
		test1(0, value.Int(1)), test1(-1, value.Int(1)), test1(9, value.Int(1)), test1(math.MinInt, value.Int(1)), test1(math.MaxInt, value.Int(1)),
		{Name: "", Op: api.TEq, Value: value.Int(1)},
		{Name: "P", Op: api.TIs},
		{Name: strings.Repeat("p", 17), Op: api.TIs},
		test1(api.TEq, api.Value{}), test1(api.TGe, api.Value{Kind: 4}), test1(api.TNe, value.Text(strings.Repeat("x", 41))),
		test1(api.TPrefix, value.Int(1)), test1(api.TPrefix, value.Bool(true)), test1(api.TPrefix, api.Value{}), test1(api.TPrefix, value.Text(strings.Repeat("x", 41))),
		test1(api.TIs, value.Int(0)), test1(api.TIs, value.Text("")), test1(api.TIs, api.Value{N: 1}), test1(api.TIs, api.Value{S: "a"}),
	}
}

// may are tests that may be.
func may() []api.Test {
	l := []api.Test{test1(api.TIs, api.Value{}), test1(api.TPrefix, value.Text("")), test1(api.TPrefix, value.Text(strings.Repeat("x", 40))), {Name: strings.Repeat("9", 16), Op: api.TIs}}
	for op := api.TEq; op <= api.TGe; op++ {
		l = append(l, test1(op, value.Int(-3)), test1(op, value.Text("ab")), test1(op, value.Bool(true)))
	}
	return l
}

// P5.1: which tests, and which filters, may be.
func TestCheck(t *testing.T) {
	for i, x := range may() {
		if told := One(x); told != api.OK {
			t.Errorf("%d: %v is told %d", i, x, told)
		}
	}
	for i, x := range mayNot() {
		if told := One(x); told != api.ErrFilter {
			t.Errorf("%d: %v is told %d", i, x, told)
		}
		if told := Check(api.Filter{test1(api.TIs, api.Value{}), x}); told != api.ErrFilter {
			t.Errorf("%d: a filter with %v is told %d", i, x, told)
		}
	}
	if Check(nil) != api.OK || Check(api.Filter{}) != api.OK {
		t.Error("a filter without a test is refused")
	}
	if told := Check(may()[:api.MaxTests]); told != api.OK {
		t.Errorf("%d tests are told %d", api.MaxTests, told)
	}
	if told := Check(may()[:api.MaxTests+1]); told != api.ErrFilter {
		t.Errorf("%d tests are told %d", api.MaxTests+1, told)
	}
}

// P5.2: what each Op asks of a value.
func TestIs(t *testing.T) {
	low, same, high := value.Int(4), value.Int(5), value.Int(6)
	for _, c := range []struct {
		op   int
		want [3]bool
	}{
		{api.TEq, [3]bool{false, true, false}},
		{api.TNe, [3]bool{true, false, true}},
		{api.TLt, [3]bool{true, false, false}},
		{api.TLe, [3]bool{true, true, false}},
		{api.TGt, [3]bool{false, false, true}},
		{api.TGe, [3]bool{false, true, true}},
		{api.TPrefix, [3]bool{}},
		{api.TIs, [3]bool{true, true, true}},
		{0, [3]bool{}}, {9, [3]bool{}}, {-1, [3]bool{}}, {math.MaxInt, [3]bool{}},
	} {
		for i, v := range []api.Value{low, same, high} {
			if is := Is(test1(c.op, same), v); is != c.want[i] {
				t.Errorf("Op %d of %v, against %v: %v", c.op, v, same, is)
			}
		}
		for _, v := range []api.Value{value.Text("a"), value.Bool(true), {}} {
			if is := Is(test1(c.op, same), v); is != (c.op == api.TIs) {
				t.Errorf("Op %d of %v, of another Kind: %v", c.op, v, is)
			}
		}
	}
}

// P5.2: texts and bools are asked alike, and beginnings of texts.
func TestIsText(t *testing.T) {
	for i, c := range []struct {
		t    api.Test
		v    api.Value
		want bool
	}{
		{test1(api.TPrefix, value.Text("ab")), value.Text("abc"), true},
		{test1(api.TPrefix, value.Text("ab")), value.Text("ab"), true},
		{test1(api.TPrefix, value.Text("ab")), value.Text("a"), false},
		{test1(api.TPrefix, value.Text("")), value.Text(""), true},
		{test1(api.TPrefix, value.Text("")), value.Int(0), false},
		{test1(api.TLt, value.Text("b")), value.Text("ab"), true},
		{test1(api.TGt, value.Text("ab")), value.Text("b"), true},
		{test1(api.TEq, value.Bool(true)), value.Bool(true), true},
		{test1(api.TLt, value.Bool(true)), value.Bool(false), true},
		{test1(api.TNe, value.Text("a")), value.Int(5), false},
		{test1(api.TIs, api.Value{}), value.Bool(false), true},
	} {
		if is := Is(c.t, c.v); is != c.want {
			t.Errorf("%d: %v of %v: %v", i, c.t, c.v, is)
		}
	}
}

// P5.2: which events a test holds of, and a filter matches.
func TestMatches(t *testing.T) {
	e := api.Event{{Name: "p", Value: value.Int(5)}, {Name: "q", Value: value.Text("abc")}, {Name: "p", Value: value.Int(9)}}
	for i, c := range []struct {
		t    api.Test
		want bool
	}{
		{test1(api.TEq, value.Int(5)), true},
		{test1(api.TEq, value.Int(9)), false},
		{api.Test{Name: "q", Op: api.TPrefix, Value: value.Text("a")}, true},
		{api.Test{Name: "r", Op: api.TIs}, false},
		{api.Test{Name: "r", Op: api.TNe, Value: value.Int(1)}, false},
	} {
		if is := Holds(c.t, e); is != c.want {
			t.Errorf("%d: %v", i, is)
		}
	}
	three := api.Filter{test1(api.TGt, value.Int(3)), test1(api.TLe, value.Int(5)), {Name: "q", Op: api.TIs}}
	if !Matches(three, e) || !Matches(nil, e) || !Matches(nil, nil) {
		t.Error("what holds does not match")
	}
	for i := range three {
		f := append(api.Filter(nil), three...)
		f[i].Name = "r"
		if Matches(f, e) {
			t.Errorf("matches, though test %d does not hold", i)
		}
	}
	if Matches(three, nil) {
		t.Error("no event matches")
	}
}

// P5.3: a filter's bytes.
func TestEncode(t *testing.T) {
	for _, c := range []struct {
		f    api.Filter
		want []byte
	}{
		{nil, []byte{0}},
		{api.Filter{test1(api.TIs, api.Value{})}, []byte{1, 1, 1, 1, 112, 1, 8}},
		{api.Filter{test1(api.TLe, value.Int(5)), {Name: "q", Op: api.TIs}}, []byte{1, 2, 1, 1, 112, 1, 4, 1, 1, 1, 10, 0, 1, 1, 113, 1, 8}},
	} {
		if b, told := Encode(c.f); told != api.OK || !bytes.Equal(b, c.want) {
			t.Errorf("%v is %v, %d", c.f, b, told)
		}
	}
	for i, x := range mayNot() {
		if b, told := Encode(api.Filter{x}); told != api.ErrFilter || len(b) != 0 {
			t.Errorf("%d: %v, %d", i, b, told)
		}
	}
	if b, told := Encode(may()[:9]); told != api.ErrFilter || len(b) != 0 {
		t.Errorf("nine tests: %v, %d", b, told)
	}
}

// raw is a filter's bytes, whether it may be or not.
func raw(f api.Filter) []byte {
	b := pack.Number(nil, uint64(len(f)))
	for _, t := range f {
		b = pack.Number(pack.Bytes(b, []byte(t.Name)), uint64(t.Op))
		if t.Op != api.TIs {
			b = pack.Value(b, t.Value)
		}
	}
	return b
}

// P5.3, P5.4: filters are decoded as they were, and no other bytes are.
func TestDecode(t *testing.T) {
	for i, x := range may() {
		f := api.Filter{x, x, test1(api.TGe, value.Text("z"))}
		b, _ := Encode(f)
		if got, told := Decode(b); told != api.OK || !reflect.DeepEqual(got, f) {
			t.Errorf("%d is decoded as %v, %d", i, got, told)
		}
		for cut := range b {
			if got, told := Decode(b[:cut]); told != api.ErrFilter || len(got) != 0 {
				t.Errorf("%d, cut at %d: %v, %d", i, cut, got, told)
			}
		}
		if got, told := Decode(append(b, 0)); told != api.ErrFilter || len(got) != 0 {
			t.Errorf("%d, with a byte behind: %v, %d", i, got, told)
		}
	}
	eight, _ := Encode(may()[:api.MaxTests])
	if f, told := Decode(eight); told != api.OK || !reflect.DeepEqual(f, api.Filter(may()[:api.MaxTests])) {
		t.Errorf("as many tests as there may be: %v, %d", f, told)
	}
	if f, told := Decode([]byte{0}); told != api.OK || len(f) != 0 {
		t.Errorf("a filter without a test: %v, %d", f, told)
	}
	for i, x := range mayNot() {
		b := raw(api.Filter{x})
		if x.Op == api.TIs && x.Name == "p" {
			b = pack.Value(b, x.Value)
		}
		if got, told := Decode(b); told != api.ErrFilter || len(got) != 0 {
			t.Errorf("%d: %v is decoded as %v, %d", i, x, got, told)
		}
	}
	for _, b := range [][]byte{raw(may()[:9]), {8, 255, 255, 255, 255, 255, 255, 255, 255}, {1, 1, 1, 1, 112, 8, 1, 0, 0, 0, 0, 0, 0, 8}} {
		if got, told := Decode(b); told != api.ErrFilter || len(got) != 0 {
			t.Errorf("%v: %v, %d", b, got, told)
		}
	}
}

// P5.4: one test more matches no more; the order of tests does not matter.
func TestMore(t *testing.T) {
	var events []api.Event
	for n := range 8 {
		events = append(events, api.Event{{Name: "p", Value: value.Int(int64(n))}}, api.Event{{Name: "p", Value: value.Text(strings.Repeat("a", n))}})
	}
	var tests []api.Test
	for op := api.TEq; op <= api.TIs; op++ {
		tests = append(tests, test1(op, value.Int(4)), test1(op, value.Text("aa")))
	}
	for _, a := range tests {
		for _, b := range tests {
			for _, e := range events {
				if Matches(api.Filter{a, b}, e) && !Matches(api.Filter{a}, e) {
					t.Errorf("%v and %v match %v", a, b, e)
				}
				if Matches(api.Filter{a, b}, e) != Matches(api.Filter{b, a}, e) {
					t.Errorf("%v and %v: their order matters", a, b)
				}
			}
		}
	}
}

// R4: a decoded filter is in memory of its own.
func TestOwnMemory(t *testing.T) {
	b, _ := Encode(api.Filter{test1(api.TEq, value.Text("abc"))})
	f, _ := Decode(b)
	clear(b)
	if f[0] != test1(api.TEq, value.Text("abc")) {
		t.Errorf("now %v", f)
	}
}
