package entry

import (
	"bytes"
	"math"
	"reflect"
	"slices"
	"strings"
	"testing"

	"postilion/api"
	"postilion/event"
	"postilion/filter"
	"postilion/pack"
	"postilion/value"
)

// p is an event of one number.
func p(n int64) api.Event { return api.Event{{Name: "p", Value: value.Int(n)}} }

// is is a filter of one name.
func is(name string) api.Filter { return api.Filter{{Name: name, Op: api.TIs}} }

// big is an event of as many bytes as one has.
func big() api.Event {
	var e api.Event
	for i := range api.MaxAttrs {
		e = append(e, api.Attr{Name: strings.Repeat(string(rune('a'+i)), api.MaxName), Value: value.Text(strings.Repeat("x", api.MaxText))})
	}
	return e
}

// id is an ID.
func id(broker int, life, serial uint64) api.ID {
	return api.ID{Broker: broker, Life: life, Serial: serial}
}

// may are entries that may be.
func may() []api.Entry {
	eight := slices.Repeat([]api.Event{big()}, api.MaxEvents)
	return []api.Entry{
		{Kind: api.EPublish},
		{Kind: api.EPublish, ID: id(api.MaxBrokers-1, math.MaxUint64, math.MaxUint64), Client: api.MaxClients - 1, Events: []api.Event{p(1)}},
		{Kind: api.EPublish, ID: id(3, 1, 2), Client: 4, Events: eight},
		{Kind: api.ESub},
		{Kind: api.ESub, ID: id(1, 2, 3), Client: 2, Sub: math.MaxUint64, Filter: append(is("q"), api.Test{Name: "p", Op: api.TPrefix, Value: value.Text("ab")})},
		{Kind: api.EUnsub, ID: id(3, 2, 5), Client: 1, Sub: 9},
		{Kind: api.EUnsub},
	}
}

// mayNot are entries that may not be.
func mayNot() []api.Entry {
	return []api.Entry{
		{}, {Kind: 4}, {Kind: -1}, {Kind: math.MinInt}, {Kind: math.MaxInt},
		{Kind: api.EPublish, ID: id(-1, 1, 1)}, {Kind: api.ESub, ID: id(api.MaxBrokers, 1, 1)}, {Kind: api.EUnsub, ID: id(math.MinInt, 1, 1)},
		{Kind: api.EPublish, Client: -1}, {Kind: api.ESub, Client: api.MaxClients}, {Kind: api.EUnsub, Client: math.MaxInt},
		{Kind: api.EPublish, Sub: 1},
		{Kind: api.EPublish, Filter: is("p")},
		{Kind: api.EPublish, Events: slices.Repeat([]api.Event{p(1)}, api.MaxEvents+1)},
		{Kind: api.EPublish, Events: []api.Event{p(1), nil}},
		{Kind: api.ESub, Events: []api.Event{p(1)}},
		{Kind: api.ESub, Events: []api.Event{nil}},
		{Kind: api.ESub, Filter: is("P")},
		{Kind: api.ESub, Filter: slices.Repeat(is("p"), api.MaxTests+1)},
		{Kind: api.EUnsub, Filter: is("p")},
		{Kind: api.EUnsub, Events: []api.Event{p(1)}},
	}
}

// P11.1: the order of IDs.
func TestLess(t *testing.T) {
	l := []api.ID{id(math.MinInt, 9, 9), id(-1, 0, 0), id(0, 0, 0), id(0, 0, 1), id(0, 0, math.MaxUint64), id(0, 1, 0), id(0, math.MaxUint64, 0), id(1, 0, 0), id(math.MaxInt, 0, 0)}
	for i, a := range l {
		for j, b := range l {
			if Less(a, b) != (i < j) {
				t.Errorf("%v, %v: %v", a, b, Less(a, b))
			}
		}
	}
}

// P11.1: which entries may be.
func TestCheck(t *testing.T) {
	for i, x := range may() {
		if told := Check(x); told != api.OK {
			t.Errorf("%d is told %d", i, told)
		}
	}
	for i, x := range mayNot() {
		if told := Check(x); told != api.ErrEntry {
			t.Errorf("%d, that may not be, is told %d", i, told)
		}
		if b, told := Encode(x); told != api.ErrEntry || len(b) != 0 {
			t.Errorf("%d, that may not be, is %v, %d", i, b, told)
		}
	}
	if Check(api.Entry{Kind: api.EUnsub, Filter: api.Filter{}, Events: []api.Event{}}) != api.OK {
		t.Error("lists without elements are refused")
	}
}

// P11.2: an entry's bytes.
func TestEncode(t *testing.T) {
	for i, c := range []struct {
		x    api.Entry
		want []byte
	}{
		{api.Entry{Kind: api.EUnsub, ID: id(3, 2, 5), Client: 1, Sub: 9}, []byte{1, 3, 1, 3, 1, 2, 1, 5, 1, 1, 1, 9}},
		{api.Entry{Kind: api.ESub, ID: id(0, 1, 258), Client: 2, Sub: 7, Filter: is("p")}, []byte{1, 2, 0, 1, 1, 2, 1, 2, 1, 2, 1, 7, 1, 7, 1, 1, 1, 1, 112, 1, 8}},
		{api.Entry{Kind: api.EPublish, ID: id(1, 1, 1), Events: []api.Event{p(5), p(0)}}, []byte{1, 1, 1, 1, 1, 1, 1, 1, 0, 0, 1, 2, 1, 10, 1, 1, 1, 1, 112, 1, 1, 1, 10, 0, 1, 9, 1, 1, 1, 1, 112, 1, 1, 0, 0}},
		{api.Entry{Kind: api.EPublish}, []byte{1, 1, 0, 0, 0, 0, 0, 0}},
	} {
		if b, told := Encode(c.x); told != api.OK || !bytes.Equal(b, c.want) {
			t.Errorf("%d is %v, %d", i, b, told)
		}
	}
}

// rawEntry is an entry's bytes, whether it may be or not.
func rawEntry(x api.Entry) []byte {
	var b []byte
	for _, n := range []uint64{uint64(x.Kind), uint64(x.ID.Broker), x.ID.Life, x.ID.Serial, uint64(x.Client), x.Sub} {
		b = pack.Number(b, n)
	}
	if x.Kind == api.EPublish {
		b = pack.Number(b, uint64(len(x.Events)))
		for _, e := range x.Events {
			one, _ := event.Encode(e)
			b = pack.Bytes(b, one)
		}
	}
	if x.Kind == api.ESub {
		f, _ := filter.Encode(x.Filter)
		b = pack.Bytes(b, f)
	}
	return b
}

// P11.2, P11.4: entries are decoded as they were, and no other bytes are.
func TestDecode(t *testing.T) {
	for i, x := range may() {
		b, _ := Encode(x)
		if got, told := Decode(b); told != api.OK || !reflect.DeepEqual(got, x) {
			t.Errorf("%d is decoded as %v, %d", i, got, told)
		}
		for cut := range b {
			if got, told := Decode(b[:cut]); told != api.ErrEntry || !empty(got) {
				t.Fatalf("%d, cut at %d: %v, %d", i, cut, got, told)
			}
		}
		if got, told := Decode(append(b, 0)); told != api.ErrEntry || !empty(got) {
			t.Errorf("%d, with a byte behind: %v, %d", i, got, told)
		}
	}
	for i, x := range mayNot() {
		if x.Kind != api.EPublish && len(x.Events) > 0 || x.Kind != api.ESub && len(x.Filter) > 0 {
			continue // what it has too much does not show in bytes
		}
		if got, told := Decode(rawEntry(x)); told != api.ErrEntry || !empty(got) {
			t.Errorf("%d, that may not be: %v, %d", i, got, told)
		}
	}
	unlike := pack.Bytes([]byte{1, 2, 0, 0, 0, 0, 0}, []byte{2, 0, 0})
	if got, told := Decode(unlike); told != api.ErrEntry || !empty(got) {
		t.Errorf("a filter that was not packed so: %v, %d", got, told)
	}
}

// records are records that may be.
func records() []api.Record {
	l := []api.Record{
		{Kind: api.RLife}, {Kind: api.RLife, N: math.MaxUint64},
		{Kind: api.RAbort}, {Kind: api.RAbort, ID: id(15, 3, math.MaxUint64)},
		{Kind: api.RForget}, {Kind: api.RForget, ID: id(2, 1, 4)},
	}
	for _, x := range may() {
		l = append(l, api.Record{Kind: api.RPromise, Entry: x}, api.Record{Kind: api.REntry, N: 700, Entry: x})
	}
	return l
}

// noRecords are records that may not be.
func noRecords() []api.Record {
	one, x := id(1, 1, 1), api.Entry{Kind: api.EUnsub, ID: id(1, 1, 1)}
	l := []api.Record{
		{}, {Kind: 6}, {Kind: -1, N: 1}, {Kind: math.MaxInt},
		{Kind: api.RLife, ID: one}, {Kind: api.RLife, ID: id(0, 0, 1)}, {Kind: api.RLife, Entry: x}, {Kind: api.RLife, Entry: api.Entry{Client: 1}},
		{Kind: api.RLife, Entry: api.Entry{Sub: 1}}, {Kind: api.RLife, Entry: api.Entry{Filter: is("p")}}, {Kind: api.RLife, Entry: api.Entry{Events: []api.Event{nil}}}, {Kind: api.RLife, Entry: api.Entry{ID: id(0, 1, 0)}},
		{Kind: api.RPromise, Entry: x, N: 1}, {Kind: api.RPromise, Entry: x, ID: one}, {Kind: api.RPromise},
		{Kind: api.REntry, Entry: x, ID: one}, {Kind: api.REntry, N: 3},
		{Kind: api.RAbort, ID: id(-1, 1, 1)}, {Kind: api.RAbort, ID: id(16, 1, 1)}, {Kind: api.RAbort, ID: one, N: 1}, {Kind: api.RAbort, ID: one, Entry: x},
		{Kind: api.RForget, ID: id(16, 1, 1)}, {Kind: api.RForget, ID: one, N: 1}, {Kind: api.RForget, ID: one, Entry: api.Entry{Kind: 1}},
	}
	for _, x := range mayNot() {
		l = append(l, api.Record{Kind: api.RPromise, Entry: x}, api.Record{Kind: api.REntry, N: 1, Entry: x})
	}
	return l
}

// P11.3: a record's bytes.
func TestPack(t *testing.T) {
	x := api.Entry{Kind: api.EUnsub, ID: id(3, 2, 5), Client: 1, Sub: 9}
	for i, c := range []struct {
		r    api.Record
		want []byte
	}{
		{api.Record{Kind: api.RLife, N: 258}, []byte{1, 1, 2, 1, 2}},
		{api.Record{Kind: api.REntry, N: 4, Entry: x}, []byte{1, 2, 1, 4, 1, 12, 1, 3, 1, 3, 1, 2, 1, 5, 1, 1, 1, 9}},
		{api.Record{Kind: api.RPromise, Entry: x}, []byte{1, 3, 0, 1, 12, 1, 3, 1, 3, 1, 2, 1, 5, 1, 1, 1, 9}},
		{api.Record{Kind: api.RAbort, ID: id(3, 2, 5)}, []byte{1, 4, 0, 1, 3, 1, 2, 1, 5}},
		{api.Record{Kind: api.RForget, ID: id(0, 2, 5)}, []byte{1, 5, 0, 0, 1, 2, 1, 5}},
	} {
		if b, told := Pack(c.r); told != api.OK || !bytes.Equal(b, c.want) {
			t.Errorf("%d is %v, %d", i, b, told)
		}
	}
	for i, r := range noRecords() {
		if b, told := Pack(r); told != api.ErrEntry || len(b) != 0 {
			t.Errorf("%d, that may not be, is %v, %d", i, b, told)
		}
	}
}

// noRecord tells whether a record is empty.
func noRecord(r api.Record) bool {
	return r.Kind == 0 && r.N == 0 && empty(r.Entry) && r.ID == api.ID{}
}

// P11.3, P11.4: records are unpacked as they were, and no other bytes are.
func TestUnpack(t *testing.T) {
	for i, r := range records() {
		b, told := Pack(r)
		if told != api.OK {
			t.Fatalf("%d is told %d", i, told)
		}
		if got, told := Unpack(b); told != api.OK || !reflect.DeepEqual(got, r) {
			t.Errorf("%d is unpacked as %v, %d", i, got, told)
		}
		for cut := range b {
			if got, told := Unpack(b[:cut]); told != api.ErrEntry || !noRecord(got) {
				t.Fatalf("%d, cut at %d: %v, %d", i, cut, got, told)
			}
		}
		if got, told := Unpack(append(b, 0)); told != api.ErrEntry || !noRecord(got) {
			t.Errorf("%d, with a byte behind: %v, %d", i, got, told)
		}
	}
	x := []byte{1, 3, 1, 3, 1, 2, 1, 5, 1, 1, 1, 9}
	for i, b := range [][]byte{
		nil, {0, 0}, {1, 6, 0}, {1, 4, 1, 1, 1, 3, 1, 2, 1, 5}, {1, 4, 0, 1, 16, 1, 2, 1, 5}, {1, 5, 0, 8, 255, 255, 255, 255, 255, 255, 255, 255, 0, 0},
		append([]byte{1, 3, 1, 1, 1, 12}, x...), append([]byte{1, 3, 0, 1, 11}, x...), append([]byte{1, 2, 0, 1, 11}, x[:11]...),
	} {
		if got, told := Unpack(b); told != api.ErrEntry || !noRecord(got) {
			t.Errorf("%d: %v, %d", i, got, told)
		}
	}
}

// R4: what is decoded is in memory of its own, and what is encoded is left alone.
func TestOwnMemory(t *testing.T) {
	for i, x := range may() {
		b, _ := Encode(x)
		got, _ := Decode(b)
		clear(b)
		if !reflect.DeepEqual(got, may()[i]) || !reflect.DeepEqual(x, may()[i]) {
			t.Errorf("%d is now %v", i, got)
		}
	}
}
