package wire

import (
	"postilion/api"
	"postilion/entry"
	"postilion/idpack"
	"postilion/pack"
)

// reader is a message's bytes that are unpacked, and whether something was packed that is no part of a message.
type reader struct {
	*pack.Reader
	long int
	bad  bool
}

// Decode is the message that bytes are.
func Decode(b []byte) (api.Message, api.Errno) {
	r := &reader{Reader: pack.New(b), long: len(b)}
	m := api.Message{Kind: idpack.Small(r.Reader)}
	m.Have = r.Number()
	switch m.Kind {
	case api.MReport:
		m.Votes = list(r, readVote)
		m.Asks = list(r, readEntry)
	case api.MCommand:
		m.Entries = list(r, readEntry)
		m.Prepares = list(r, readEntry)
		m.Aborts = list(r, readID)
		m.Ends = list(r, readID)
	}
	if r.bad || !r.Done() || Check(m) != api.OK {
		return api.Message{}, api.ErrWire
	}
	return m, api.OK
}

// list is the list that a reader goes on with.
func list[T any](r *reader, one func(*reader) T) []T {
	n := r.Number()
	if n > api.MaxList {
		r.bad = true
		return nil
	}
	var l []T
	for range n {
		l = append(l, one(r))
	}
	return l
}

func readVote(r *reader) api.Vote {
	v := api.Vote{ID: readID(r)}
	yes := r.Number()
	if yes > 1 {
		r.bad = true
	}
	v.Yes = yes == 1
	return v
}

func readID(r *reader) api.ID { return idpack.Read(r.Reader) }

func readEntry(r *reader) api.Entry {
	x, told := entry.Decode(r.Bytes(r.long))
	if told != api.OK {
		r.bad = true
	}
	return x
}
