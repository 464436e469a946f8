package event

import (
	"bytes"
	"reflect"
	"strings"
	"testing"

	"postilion/api"
	"postilion/pack"
	"postilion/value"
)

// P4.1: which names may be.
func TestName(t *testing.T) {
	for _, s := range []string{"a", "z", "0", "9", "price", "a0b9", "0123456789abcdef", strings.Repeat("z", api.MaxName)} {
		if !Name(s) {
			t.Errorf("%q is no name", s)
		}
	}
	for _, s := range []string{"", "A", "a b", "a_", "-", "é", "`", "{", "/", ":", "\x00", "a\xff", strings.Repeat("z", api.MaxName+1)} {
		if Name(s) {
			t.Errorf("%q is a name", s)
		}
	}
}

// many is an event of n attributes.
func many(n int) api.Event {
	var e api.Event
	for i := range n {
		e = append(e, api.Attr{Name: string(rune('a' + i)), Value: value.Int(int64(i))})
	}
	return e
}

// mayNot are events that may not be.
func mayNot() []api.Event {
	one := value.Int(1)
	return []api.Event{
		nil, {}, many(api.MaxAttrs + 1),
		{{Name: "b", Value: one}, {Name: "a", Value: one}},
		{{Name: "a", Value: one}, {Name: "a", Value: one}},
		{{Name: "a", Value: one}, {Name: "c", Value: one}, {Name: "b", Value: one}},
		{{Name: "", Value: one}},
		{{Name: "A", Value: one}},
		{{Name: strings.Repeat("a", 17), Value: one}},
		{{Name: "a"}},
		{{Name: "a", Value: api.Value{Kind: 9}}},
		{{Name: "a", Value: one}, {Name: "b", Value: value.Text(strings.Repeat("x", 41))}},
		{{Name: "a", Value: value.Int(1)}, {Name: "b!", Value: one}},
	}
}

// may are events that may be.
func may() []api.Event {
	return []api.Event{
		many(1), many(2), many(api.MaxAttrs),
		{{Name: "a", Value: value.Text("")}, {Name: "a0", Value: value.Bool(true)}, {Name: "b", Value: value.Int(-9)}},
		{{Name: "9", Value: value.Int(1)}, {Name: "a", Value: value.Text(strings.Repeat("\xff", 40))}},
		{{Name: strings.Repeat("z", 16), Value: value.Bool(false)}},
	}
}

// P4.1: which events may be.
func TestCheck(t *testing.T) {
	for i, e := range may() {
		if told := Check(e); told != api.OK {
			t.Errorf("%d is told %d", i, told)
		}
	}
	for i, e := range mayNot() {
		if told := Check(e); told != api.ErrEvent {
			t.Errorf("%d, that may not be, is told %d", i, told)
		}
	}
}

// P4.2: the first attribute of a name.
func TestFind(t *testing.T) {
	e := api.Event{{Name: "b", Value: value.Int(1)}, {Name: "a", Value: value.Int(2)}, {Name: "b", Value: value.Int(3)}, {Name: "", Value: value.Int(4)}, {Name: "c"}}
	for _, c := range []struct {
		name string
		want api.Value
		is   bool
	}{{"b", value.Int(1), true}, {"a", value.Int(2), true}, {"", value.Int(4), true}, {"c", api.Value{}, true}, {"d", api.Value{}, false}} {
		if v, is := Find(e, c.name); v != c.want || is != c.is {
			t.Errorf("%q is %v, %v", c.name, v, is)
		}
	}
	if v, is := Find(nil, "a"); v != (api.Value{}) || is {
		t.Errorf("of none: %v, %v", v, is)
	}
}

// P4.3: an event's bytes.
func TestEncode(t *testing.T) {
	e := api.Event{{Name: "p", Value: value.Int(5)}, {Name: "q", Value: value.Text("x")}}
	want := []byte{1, 2, 1, 1, 'p', 1, 1, 1, 10, 0, 1, 1, 'q', 1, 2, 0, 1, 1, 'x'}
	if b, told := Encode(e); told != api.OK || !bytes.Equal(b, want) {
		t.Errorf("%v, %d", b, told)
	}
	for i, e := range mayNot() {
		if b, told := Encode(e); told != api.ErrEvent || len(b) != 0 {
			t.Errorf("%d: %v, %d", i, b, told)
		}
	}
}

// raw is an event's bytes, whether it may be or not.
func raw(e api.Event) []byte {
	b := pack.Number(nil, uint64(len(e)))
	for _, a := range e {
		b = pack.Value(pack.Bytes(b, []byte(a.Name)), a.Value)
	}
	return b
}

// P4.3, P4.4: events are decoded as they were, and no other bytes are.
func TestDecode(t *testing.T) {
	for i, e := range may() {
		b, _ := Encode(e)
		got, told := Decode(b)
		if told != api.OK || !reflect.DeepEqual(got, e) {
			t.Errorf("%d is decoded as %v, %d", i, got, told)
		}
		for cut := range b {
			if got, told := Decode(b[:cut]); told != api.ErrEvent || len(got) != 0 {
				t.Errorf("%d, cut at %d: %v, %d", i, cut, got, told)
			}
		}
		if got, told := Decode(append(b, 0)); told != api.ErrEvent || len(got) != 0 {
			t.Errorf("%d, with a byte behind: %v, %d", i, got, told)
		}
	}
	for i, e := range mayNot() {
		if got, told := Decode(raw(e)); told != api.ErrEvent || len(got) != 0 {
			t.Errorf("%d, that may not be: %v, %d", i, got, told)
		}
	}
	for _, b := range [][]byte{{2, 0, 1, 1, 1, 'p', 1, 1, 1, 10, 0}, {8, 255, 255, 255, 255, 255, 255, 255, 255}} {
		if got, told := Decode(b); told != api.ErrEvent || len(got) != 0 {
			t.Errorf("%v: %v, %d", b, got, told)
		}
	}
}

// R4: a decoded event is in memory of its own.
func TestOwnMemory(t *testing.T) {
	b, _ := Encode(api.Event{{Name: "p", Value: value.Text("abc")}})
	e, _ := Decode(b)
	clear(b)
	if e[0].Name != "p" || e[0].Value != value.Text("abc") {
		t.Errorf("now %v", e)
	}
}
