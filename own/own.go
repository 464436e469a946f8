// Package own makes copies that share no memory with what they were made of.
package own

import "postilion/api"

// Flat is a list whose members share nothing.
func Flat[T any](l []T) []T {
	if len(l) == 0 {
		return nil
	}
	return append(make([]T, 0, len(l)), l...)
}

// Each is a list of copies, each made by one.
func Each[T any](l []T, one func(T) T) []T {
	if len(l) == 0 {
		return nil
	}
	out := make([]T, 0, len(l))
	for _, x := range l {
		out = append(out, one(x))
	}
	return out
}

// Event is an event's copy.
func Event(e api.Event) api.Event { return Flat(e) }

// Filter is a filter's copy.
func Filter(f api.Filter) api.Filter { return Flat(f) }

// Entry is an entry's copy.
func Entry(x api.Entry) api.Entry {
	x.Filter = Filter(x.Filter)
	x.Events = Each(x.Events, Event)
	return x
}

// Entries are entries' copies.
func Entries(l []api.Entry) []api.Entry { return Each(l, Entry) }

// State is a state's copy.
func State(s api.State) api.State {
	s.List, s.Promises, s.Aborted = Entries(s.List), Entries(s.Promises), Flat(s.Aborted)
	return s
}

// Txn is a transaction's copy.
func Txn(t api.Txn) api.Txn {
	t.Entry = Entry(t.Entry)
	return t
}
