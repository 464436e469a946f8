package value

import (
	"math"
	"slices"
	"strings"
	"testing"

	"postilion/api"
)

// P1.1: which values may be.
func TestCheck(t *testing.T) {
	for i, c := range []struct {
		v    api.Value
		want api.Errno
	}{
		{api.Value{Kind: api.VInt}, api.OK},
		{api.Value{Kind: api.VInt, N: math.MinInt64}, api.OK},
		{api.Value{Kind: api.VInt, N: math.MaxInt64}, api.OK},
		{api.Value{Kind: api.VInt, N: 3, S: "a"}, api.ErrValue},
		{api.Value{Kind: api.VText}, api.OK},
		{api.Value{Kind: api.VText, S: "\x00\xff"}, api.OK},
		{api.Value{Kind: api.VText, S: strings.Repeat("\xff", api.MaxText)}, api.OK},
		{api.Value{Kind: api.VText, S: strings.Repeat("a", api.MaxText+1)}, api.ErrValue},
		{api.Value{Kind: api.VText, N: 1}, api.ErrValue},
		{api.Value{Kind: api.VText, N: -1, S: "a"}, api.ErrValue},
		{api.Value{Kind: api.VBool}, api.OK},
		{api.Value{Kind: api.VBool, N: 1}, api.OK},
		{api.Value{Kind: api.VBool, N: 2}, api.ErrValue},
		{api.Value{Kind: api.VBool, N: -1}, api.ErrValue},
		{api.Value{Kind: api.VBool, N: 1, S: "a"}, api.ErrValue},
		{api.Value{}, api.ErrValue},
		{api.Value{Kind: 4}, api.ErrValue},
		{api.Value{Kind: -1}, api.ErrValue},
		{api.Value{Kind: math.MaxInt}, api.ErrValue},
		{api.Value{Kind: math.MinInt}, api.ErrValue},
	} {
		if e := Check(c.v); e != c.want {
			t.Errorf("%d: %v is told %d", i, c.v, e)
		}
	}
}

// P1.1: what makes values.
func TestMake(t *testing.T) {
	for _, n := range []int64{0, -1, 7, math.MinInt64, math.MaxInt64} {
		if v := Int(n); v != (api.Value{Kind: api.VInt, N: n}) {
			t.Errorf("Int(%d) is %v", n, v)
		}
	}
	for _, s := range []string{"", "ab", "\xff", strings.Repeat("a", api.MaxText+1)} {
		if v := Text(s); v != (api.Value{Kind: api.VText, S: s}) {
			t.Errorf("Text(%q) is %v", s, v)
		}
	}
	if v := Bool(true); v != (api.Value{Kind: api.VBool, N: 1}) {
		t.Errorf("Bool(true) is %v", v)
	}
	if v := Bool(false); v != (api.Value{Kind: api.VBool}) {
		t.Errorf("Bool(false) is %v", v)
	}
}

// inOrder are values, each of which comes ahead of the next one; some of them may not be.
func inOrder() []api.Value {
	return []api.Value{
		{Kind: math.MinInt}, {Kind: -1, S: "z"}, {}, {N: 1},
		Int(math.MinInt64), Int(-1), {Kind: api.VInt, N: -1, S: "a"}, Int(0), Int(2), Int(10), Int(math.MaxInt64),
		{Kind: api.VText, N: -1, S: "z"}, Text(""), Text("\x00"), Text("Z"), Text("a"), Text("ab"), Text("b"), Text("\xff"), {Kind: api.VText, N: 1},
		Bool(false), Bool(true), {Kind: api.VBool, N: 2},
		{Kind: math.MaxInt},
	}
}

// P1.2, P1.3: the order is one of all values.
func TestOrder(t *testing.T) {
	l := inOrder()
	for i, a := range l {
		for j, b := range l {
			want := 0
			if i < j {
				want = -1
			} else if i > j {
				want = 1
			}
			if n := Order(a, b); n != want {
				t.Errorf("%v against %v is %d, not %d", a, b, n, want)
			}
		}
	}
	turned := inOrder()
	slices.Reverse(turned)
	slices.SortFunc(turned, Order)
	if !slices.Equal(turned, l) {
		t.Errorf("sorted: %v", turned)
	}
}

// P1.2: which texts begin with which.
func TestBegins(t *testing.T) {
	for i, c := range []struct {
		a, b api.Value
		want bool
	}{
		{Text("abc"), Text("ab"), true},
		{Text("ab"), Text("ab"), true},
		{Text("ab"), Text(""), true},
		{Text(""), Text(""), true},
		{Text("ab"), Text("abc"), false},
		{Text("ab"), Text("b"), false},
		{Int(1), Int(1), false},
		{Bool(true), Bool(true), false},
		{Text(""), Int(0), false},
		{Int(0), Text(""), false},
		{api.Value{S: "a"}, api.Value{S: "a"}, false},
		{api.Value{Kind: api.VText, N: 1, S: "ab"}, Text("a"), true},
	} {
		if is := Begins(c.a, c.b); is != c.want {
			t.Errorf("%d: %v and %v: %v", i, c.a, c.b, is)
		}
	}
}
