package overlay

import (
	"postilion/api"
	"postilion/broker"
	"postilion/own"
)

// client is a client, if there is one of that number.
func (w *World) client(c int) *client {
	if w == nil || c < 0 || c >= len(w.clients) {
		return nil
	}
	return &w.clients[c]
}

// at is the broker that a client is at home at, if it is up.
func (w *World) at(c int) (*broker.Broker, api.Errno) {
	if w.client(c) == nil {
		return nil, api.ErrArg
	}
	return w.running(w.homes[c])
}

// of is likewise, for a call of an ID, that must be of that home.
func (w *World) of(c int, id api.ID) (*broker.Broker, api.Errno) {
	b, told := w.at(c)
	if told == api.OK && id.Broker != w.homes[c] {
		return nil, api.ErrArg
	}
	return b, told
}

// Begin begins a client's transaction.
func (w *World) Begin(c int) (api.ID, api.Errno) {
	b, told := w.at(c)
	if told != api.OK {
		return api.ID{}, told
	}
	return b.Begin(c)
}

// Publish publishes an event in a client's transaction.
func (w *World) Publish(c int, id api.ID, e api.Event) api.Errno {
	b, told := w.of(c, id)
	if told != api.OK {
		return told
	}
	return b.Publish(id, e)
}

// end lets a client's transaction end, one way or the other.
func (w *World) end(c int, id api.ID, how func(*broker.Broker, api.ID) api.Errno) api.Errno {
	b, told := w.of(c, id)
	if told != api.OK {
		return told
	}
	return how(b, id)
}

// Commit asks for a client's transaction.
func (w *World) Commit(c int, id api.ID) api.Errno { return w.end(c, id, (*broker.Broker).Commit) }

// Abort takes a client's transaction away.
func (w *World) Abort(c int, id api.ID) api.Errno { return w.end(c, id, (*broker.Broker).Abort) }

// Sub asks for a client's subscription.
func (w *World) Sub(c int, n uint64, f api.Filter) (api.ID, api.Errno) {
	b, told := w.at(c)
	if told != api.OK {
		return api.ID{}, told
	}
	return b.Sub(c, n, f)
}

// Unsub asks for the end of a client's subscription.
func (w *World) Unsub(c int, n uint64) (api.ID, api.Errno) {
	b, told := w.at(c)
	if told != api.OK {
		return api.ID{}, told
	}
	return b.Unsub(c, n)
}

// Status is what is known of what a client asked for.
func (w *World) Status(c int, id api.ID) (int, api.Errno) {
	b, told := w.of(c, id)
	if told != api.OK {
		return 0, told
	}
	return b.Status(id), api.OK
}

// Poll is a client's next batch.
func (w *World) Poll(c int) ([]api.Event, api.Errno) {
	b, told := w.at(c)
	if told != api.OK {
		return nil, told
	}
	who := w.client(c)
	batch, behind, told := b.Poll(c, who.cursor)
	if told != api.OK {
		return nil, told
	}
	who.cursor = behind
	if len(batch) > 0 {
		who.got = append(who.got, own.Each(batch, own.Event))
	}
	return batch, api.OK
}

// Cursor is how far a client is.
func (w *World) Cursor(c int) int {
	who := w.client(c)
	if who == nil {
		return 0
	}
	return who.cursor
}

// Got are all batches that a client polled.
func (w *World) Got(c int) [][]api.Event {
	who := w.client(c)
	if who == nil {
		return nil
	}
	return own.Each(who.got, func(l []api.Event) []api.Event { return own.Each(l, own.Event) })
}
