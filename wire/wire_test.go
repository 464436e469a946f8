package wire

import (
	"bytes"
	"math"
	"reflect"
	"slices"
	"testing"

	"postilion/api"
	"postilion/entry"
	"postilion/pack"
	"postilion/value"
)

// unsub is an entry of few bytes; sub is one of more; pub is one with events.
func unsub() api.Entry {
	return api.Entry{Kind: api.EUnsub, ID: api.ID{Broker: 3, Life: 2, Serial: 5}, Client: 1, Sub: 9}
}

func sub() api.Entry {
	return api.Entry{Kind: api.ESub, Filter: api.Filter{{Name: "p", Op: api.TIs}}}
}

func pub() api.Entry {
	e := api.Event{{Name: "p", Value: value.Int(5)}}
	return api.Entry{Kind: api.EPublish, ID: api.ID{Broker: 15, Life: math.MaxUint64}, Events: []api.Event{e, e}}
}

// times is a list of one member.
func times[T any](n int, x T) []T { return slices.Repeat([]T{x}, n) }

// may are messages that may be.
func may() []api.Message {
	yes := api.Vote{ID: api.ID{Broker: 1, Life: 2, Serial: 3}, Yes: true}
	no := api.Vote{ID: api.ID{Broker: 15}}
	id := api.ID{Broker: 15, Life: 7, Serial: math.MaxUint64}
	return []api.Message{
		{Kind: api.MReport}, {Kind: api.MCommand}, {Kind: api.MReport, Have: math.MaxUint64}, {Kind: api.MCommand, Have: 300},
		{Kind: api.MReport, Votes: []api.Vote{yes, no, yes}, Asks: []api.Entry{unsub(), pub(), sub()}},
		{Kind: api.MReport, Votes: times(api.MaxList, no), Asks: times(api.MaxList, pub())},
		{Kind: api.MCommand, Have: 9, Entries: []api.Entry{pub(), sub()}, Prepares: []api.Entry{unsub()}, Aborts: []api.ID{id, {}}, Ends: []api.ID{{}, id, id}},
		{Kind: api.MCommand, Entries: times(api.MaxList, sub()), Prepares: times(api.MaxList, unsub()), Aborts: times(api.MaxList, id), Ends: times(api.MaxList, id)},
	}
}

// mayNot are messages that may not be.
func mayNot() []api.Message {
	id, bad, low := api.ID{}, api.ID{Broker: api.MaxBrokers}, api.ID{Broker: -1}
	r, c := api.MReport, api.MCommand
	return []api.Message{
		{}, {Kind: 3}, {Kind: -1}, {Kind: math.MinInt}, {Kind: math.MaxInt},
		{Kind: r, Entries: times(1, sub())}, {Kind: r, Prepares: times(1, sub())}, {Kind: r, Aborts: times(1, id)}, {Kind: r, Ends: times(1, id)},
		{Kind: c, Votes: times(1, api.Vote{})}, {Kind: c, Asks: times(1, sub())},
		{Kind: r, Votes: times(17, api.Vote{})}, {Kind: r, Asks: times(17, sub())},
		{Kind: c, Entries: times(17, sub())}, {Kind: c, Prepares: times(17, sub())}, {Kind: c, Aborts: times(17, id)}, {Kind: c, Ends: times(17, id)},
		{Kind: r, Votes: []api.Vote{{}, {ID: bad}}}, {Kind: r, Votes: []api.Vote{{ID: low}}}, {Kind: r, Asks: []api.Entry{sub(), {}}},
		{Kind: c, Entries: []api.Entry{sub(), {}}}, {Kind: c, Prepares: []api.Entry{{Kind: 1, Client: 32}}},
		{Kind: c, Aborts: []api.ID{id, bad}}, {Kind: c, Aborts: []api.ID{low}}, {Kind: c, Ends: []api.ID{id, bad}}, {Kind: c, Ends: []api.ID{low}},
	}
}

// P13.1: which messages may be.
func TestCheck(t *testing.T) {
	for i, m := range may() {
		if told := Check(m); told != api.OK {
			t.Errorf("%d is told %d", i, told)
		}
	}
	for i, m := range mayNot() {
		if told := Check(m); told != api.ErrWire {
			t.Errorf("%d, that may not be, is told %d", i, told)
		}
		if b, told := Encode(m); told != api.ErrWire || len(b) != 0 {
			t.Errorf("%d, that may not be, is %v, %d", i, b, told)
		}
	}
}

// P13.2: a message's bytes.
func TestEncode(t *testing.T) {
	x := []byte{1, 12, 1, 3, 1, 3, 1, 2, 1, 5, 1, 1, 1, 9}
	report := slices.Concat([]byte{1, 1, 1, 5, 1, 2, 1, 1, 1, 2, 1, 3, 1, 1, 0, 0, 0, 0, 1, 1}, x)
	command := slices.Concat([]byte{1, 2, 0, 1, 1}, x, []byte{1, 2}, x, x, []byte{1, 1, 1, 4, 0, 0, 1, 1, 0, 1, 6, 0})
	for i, c := range []struct {
		m    api.Message
		want []byte
	}{
		{api.Message{Kind: api.MReport, Have: 5}, []byte{1, 1, 1, 5, 0, 0}},
		{api.Message{Kind: api.MCommand}, []byte{1, 2, 0, 0, 0, 0, 0}},
		{api.Message{Kind: api.MReport, Have: 5, Votes: []api.Vote{{ID: api.ID{Broker: 1, Life: 2, Serial: 3}, Yes: true}, {}}, Asks: times(1, unsub())}, report},
		{api.Message{Kind: api.MCommand, Entries: times(1, unsub()), Prepares: times(2, unsub()), Aborts: []api.ID{{Broker: 4}}, Ends: []api.ID{{Life: 6}}}, command},
	} {
		if b, told := Encode(c.m); told != api.OK || !bytes.Equal(b, c.want) {
			t.Errorf("%d is %v, %d", i, b, told)
		}
	}
}

// refused asks that bytes are no message.
func refused(t *testing.T, what string, b []byte) {
	t.Helper()
	if m, told := Decode(b); told != api.ErrWire || !reflect.DeepEqual(m, api.Message{}) {
		t.Errorf("%s: %v is decoded as %v, %d", what, b, m, told)
	}
}

// P13.2, P13.3: messages are decoded as they were, and no other bytes are.
func TestDecode(t *testing.T) {
	for i, m := range may() {
		b, _ := Encode(m)
		if got, told := Decode(b); told != api.OK || !reflect.DeepEqual(got, m) {
			t.Errorf("%d is decoded as %v, %d", i, got, told)
		}
		for cut := range b {
			refused(t, "cut", b[:cut])
		}
		refused(t, "with a byte behind", append(b, 0))
	}
	vote := func(yes uint64) []byte { return pack.Number([]byte{1, 1, 0, 1, 1, 0, 0, 0}, yes) }
	if m, told := Decode(append(vote(1), 0)); told != api.OK || !m.Votes[0].Yes {
		t.Errorf("a yes: %v, %d", m, told)
	}
	refused(t, "a vote of 2", append(vote(2), 0))
	refused(t, "a broker of 16", []byte{1, 2, 0, 0, 0, 1, 1, 1, 16, 0, 0, 0})
	refused(t, "a broker beyond", []byte{1, 2, 0, 0, 0, 1, 1, 5, 1, 0, 0, 0, 3, 0, 0, 0})
	refused(t, "a Kind of 3", []byte{1, 3, 0})
	refused(t, "a Kind of 0", []byte{0, 0})
	refused(t, "a Kind beyond", []byte{5, 1, 0, 0, 0, 1, 0, 0, 0})
	refused(t, "too many votes", slices.Concat([]byte{1, 1, 0, 1, 17}, make([]byte, 4*17), []byte{0}))
	refused(t, "far too many", []byte{1, 1, 0, 8, 255, 255, 255, 255, 255, 255, 255, 255, 0})
	bad := pack.Bytes(nil, []byte{1, 9, 0, 0, 0, 0, 0})
	refused(t, "no entry", slices.Concat([]byte{1, 1, 0, 0, 1, 1}, bad))
	one, _ := entry.Encode(unsub())
	refused(t, "an entry with a byte behind", slices.Concat([]byte{1, 1, 0, 0, 1, 1}, pack.Bytes(nil, append(one, 0))))
}

// R4: what is decoded is in memory of its own.
func TestOwnMemory(t *testing.T) {
	for i, m := range may() {
		b, _ := Encode(m)
		got, _ := Decode(b)
		clear(b)
		if !reflect.DeepEqual(got, may()[i]) {
			t.Errorf("%d is now %v", i, got)
		}
	}
}
