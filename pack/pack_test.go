package pack

import (
	"bytes"
	"math"
	"strings"
	"testing"

	"postilion/api"
	"postilion/value"
)

// P2.1: numbers' bytes.
func TestNumber(t *testing.T) {
	for _, c := range []struct {
		n    uint64
		want []byte
	}{
		{0, []byte{0}},
		{1, []byte{1, 1}},
		{255, []byte{1, 255}},
		{256, []byte{2, 1, 0}},
		{258, []byte{2, 1, 2}},
		{1 << 16, []byte{3, 1, 0, 0}},
		{1<<56 - 1, []byte{7, 255, 255, 255, 255, 255, 255, 255}},
		{1 << 56, []byte{8, 1, 0, 0, 0, 0, 0, 0, 0}},
		{math.MaxUint64, []byte{8, 255, 255, 255, 255, 255, 255, 255, 255}},
	} {
		if b := Number(nil, c.n); !bytes.Equal(b, c.want) {
			t.Errorf("Number(%d) is %v", c.n, b)
		}
		if b := Number([]byte{9, 8}, c.n); !bytes.Equal(b, append([]byte{9, 8}, c.want...)) {
			t.Errorf("Number(9 8, %d) is %v", c.n, b)
		}
	}
}

// P2.1: bytes' bytes.
func TestBytes(t *testing.T) {
	for _, c := range []struct{ out, b, want []byte }{
		{nil, nil, []byte{0}},
		{nil, []byte{7}, []byte{1, 1, 7}},
		{[]byte{5}, []byte("ab"), []byte{5, 1, 2, 'a', 'b'}},
		{nil, bytes.Repeat([]byte{3}, 256), append([]byte{2, 1, 0}, bytes.Repeat([]byte{3}, 256)...)},
	} {
		if b := Bytes(c.out, c.b); !bytes.Equal(b, c.want) {
			t.Errorf("Bytes(%v, %v) is %v", c.out, c.b, b)
		}
	}
}

// P2.1: values' bytes.
func TestValue(t *testing.T) {
	for _, c := range []struct {
		v    api.Value
		want []byte
	}{
		{value.Int(0), []byte{1, 1, 0, 0}},
		{value.Int(-1), []byte{1, 1, 1, 1, 0}},
		{value.Int(1), []byte{1, 1, 1, 2, 0}},
		{value.Int(-2), []byte{1, 1, 1, 3, 0}},
		{value.Int(-129), []byte{1, 1, 2, 1, 1, 0}},
		{value.Int(math.MaxInt64), []byte{1, 1, 8, 255, 255, 255, 255, 255, 255, 255, 254, 0}},
		{value.Int(math.MinInt64), []byte{1, 1, 8, 255, 255, 255, 255, 255, 255, 255, 255, 0}},
		{value.Text("a"), []byte{1, 2, 0, 1, 1, 97}},
		{value.Text(""), []byte{1, 2, 0, 0}},
		{value.Bool(true), []byte{1, 3, 1, 1, 0}},
		{value.Bool(false), []byte{1, 3, 0, 0}},
	} {
		if b := Value(nil, c.v); !bytes.Equal(b, c.want) {
			t.Errorf("%v is %v", c.v, b)
		}
		if b := Value([]byte{4}, c.v); !bytes.Equal(b, append([]byte{4}, c.want...)) {
			t.Errorf("4 and %v is %v", c.v, b)
		}
	}
	Value(nil, api.Value{Kind: -1, N: -1, S: "a"}) // some answer, no panic
}

// R4: what is handed in is left alone, its spare room included.
func TestOwnMemory(t *testing.T) {
	whole := []byte{1, 2, 3, 4, 5, 6, 7, 8, 9, 10, 11, 12}
	keep := bytes.Clone(whole)
	n, b, v := Number(whole[:2], 300), Bytes(whole[:2], whole[4:6]), Value(whole[:2], value.Text("xy"))
	for _, l := range [][]byte{n, b, v} {
		l[0] = 99
		_ = append(l, 77, 77)
	}
	if !bytes.Equal(whole, keep) {
		t.Errorf("now %v", whole)
	}
	packed := Bytes(Bytes(nil, []byte("ab")), []byte("cd"))
	r := New(packed)
	clear(packed)
	x := r.Bytes(2)
	y := r.Bytes(2)
	_ = append(x, 99, 99, 99, 99)
	if string(x) != "ab" || string(y) != "cd" || !r.Done() {
		t.Errorf("read %q, %q", x, y)
	}
}

// P2.2, P2.3: what was packed is unpacked.
func TestRead(t *testing.T) {
	b := []byte(nil)
	numbers := []uint64{0, 1, 255, 256, 1<<32 + 5, math.MaxUint64}
	values := []api.Value{value.Int(0), value.Int(-1), value.Int(math.MinInt64), value.Int(math.MaxInt64), value.Text(""), value.Text(strings.Repeat("\xff", 40)), value.Bool(true), value.Bool(false)}
	for _, n := range numbers {
		b = Number(b, n)
	}
	for _, v := range values {
		b = Value(b, v)
	}
	b = Bytes(Bytes(b, nil), []byte("abc"))
	r := New(b)
	for _, n := range numbers {
		if got := r.Number(); got != n {
			t.Errorf("%d is read as %d", n, got)
		}
	}
	for _, v := range values {
		if got := r.Value(); got != v {
			t.Errorf("%v is read as %v", v, got)
		}
	}
	if got := r.Bytes(0); len(got) != 0 || r.Wrong() || r.Done() {
		t.Errorf("no bytes are read as %v", got)
	}
	if got := r.Bytes(3); string(got) != "abc" || r.Wrong() || !r.Done() {
		t.Errorf("abc is read as %q", got)
	}
	if n := r.Number(); n != 0 || !r.Wrong() || r.Done() {
		t.Errorf("behind the end: %d", n)
	}
}

// stuck tells whether a reader is wrong, and answers nothing more.
func stuck(r *Reader) bool {
	return r.Wrong() && !r.Done() && r.Number() == 0 && len(r.Bytes(9)) == 0 && r.Value() == api.Value{} && r.Wrong()
}

// P2.2, P2.3: numbers that are packed in another way are wrong, and all behind them.
func TestWrongNumber(t *testing.T) {
	for _, b := range [][]byte{
		{}, {1}, {2, 1}, {1, 0}, {2, 0, 5}, {8, 0, 1, 1, 1, 1, 1, 1, 1}, {9, 1, 1, 1, 1, 1, 1, 1, 1, 1}, {255}, {8, 1, 1, 1, 1, 1, 1, 1},
	} {
		r := New(append(b, make([]byte, 0, 20)...))
		if n := r.Number(); n != 0 || !stuck(r) {
			t.Errorf("%v is read as %d", b, n)
		}
	}
	r := New([]byte{2, 0, 5, 1, 1, 1, 1})
	if r.Number(); !stuck(r) {
		t.Error("goes on behind what was wrong")
	}
}

// P2.2: bytes that are too many, or too few, are wrong.
func TestWrongBytes(t *testing.T) {
	for i, c := range []struct {
		b    []byte
		most int
	}{
		{[]byte{1, 2, 7, 7, 0}, 1},
		{[]byte{1, 2, 7}, 5},
		{[]byte{0}, -1},
		{[]byte{1, 1, 7}, math.MinInt},
		{[]byte{8, 255, 255, 255, 255, 255, 255, 255, 255, 7}, math.MaxInt},
		{[]byte{2, 0, 1, 7}, 5},
		{nil, 5},
	} {
		r := New(c.b)
		if b := r.Bytes(c.most); len(b) != 0 || !stuck(r) {
			t.Errorf("%d: read as %v", i, b)
		}
	}
}

// P2.2: values that may not be are wrong.
func TestWrongValue(t *testing.T) {
	for i, b := range [][]byte{
		{0, 0, 0},
		{1, 4, 0, 0},
		{8, 255, 255, 255, 255, 255, 255, 255, 255, 0, 0},
		{5, 1, 0, 0, 0, 1, 1, 2, 0},
		{1, 1, 0, 1, 1, 97},
		{1, 2, 1, 1, 0},
		{1, 3, 1, 2, 0},
		{1, 3, 8, 255, 255, 255, 255, 255, 255, 255, 255, 0},
		{1, 3, 1, 1, 1, 1, 97},
		Value(nil, value.Text(strings.Repeat("a", 41))),
	} {
		r := New(append(b, 0, 0))
		if v := r.Value(); v != (api.Value{}) || !stuck(r) {
			t.Errorf("%d: read as %v", i, v)
		}
	}
	whole := Value(nil, value.Text("ab"))
	for cut := range whole {
		r := New(whole[:cut])
		if v := r.Value(); v != (api.Value{}) || !stuck(r) {
			t.Errorf("cut at %d: read as %v", cut, v)
		}
	}
}

// P2.3: bytes that are read whole are what packs again so.
func TestOneWay(t *testing.T) {
	for a := range 1 << 16 {
		b := []byte{byte(a >> 8), byte(a), 1, 2}
		for cut := range len(b) + 1 {
			r := New(b[:cut])
			n := r.Number()
			if r.Done() && !bytes.Equal(Number(nil, n), b[:cut]) {
				t.Fatalf("%v is read as %d", b[:cut], n)
			}
			r = New(b[:cut])
			v := r.Value()
			if r.Done() && !bytes.Equal(Value(nil, v), b[:cut]) {
				t.Fatalf("%v is read as %v", b[:cut], v)
			}
		}
	}
}

// R1: no reader, and one that was not made by New.
func TestNil(t *testing.T) {
	var r *Reader
	if r.Number() != 0 || len(r.Bytes(5)) != 0 || r.Value() != (api.Value{}) || r.Wrong() || r.Done() {
		t.Error("no reader answers something")
	}
	r = &Reader{}
	if !r.Done() || r.Wrong() {
		t.Error("an empty reader is not done")
	}
	if r.Value() != (api.Value{}) || !stuck(r) {
		t.Error("an empty reader reads")
	}
}
