package broker

import (
	"slices"

	"postilion/api"
	"postilion/fold"
	"postilion/stage"
	"postilion/table"
)

// settle takes a transaction away.
func (b *Broker) settle(id api.ID) { b.txns = stage.Settle(b.txns, id) }

// home tells whether a client is at home here.
func (b *Broker) home(client int) bool {
	return client >= 0 && client < len(b.homes) && b.homes[client] == b.me
}

// take gives a client's new transaction an ID, and lays it behind the others.
func (b *Broker) take(client int, lay func([]api.Txn, api.ID) ([]api.Txn, api.Errno)) (api.ID, api.Errno) {
	if b == nil {
		return api.ID{}, api.ErrArg
	}
	if !b.home(client) {
		return api.ID{}, api.ErrHome
	}
	id := api.ID{Broker: b.me, Life: b.state.Life, Serial: b.begun + 1}
	l, told := lay(b.txns, id)
	if told != api.OK {
		return api.ID{}, told
	}
	b.txns = l
	b.begun++
	return id, api.OK
}

// Begin opens a client's transaction.
func (b *Broker) Begin(client int) (api.ID, api.Errno) {
	return b.take(client, func(l []api.Txn, id api.ID) ([]api.Txn, api.Errno) {
		return stage.Begin(l, id, client)
	})
}

// Sub asks for a client's subscription.
func (b *Broker) Sub(client int, n uint64, f api.Filter) (api.ID, api.Errno) {
	return b.ask(api.Entry{Kind: api.ESub, Client: client, Sub: n, Filter: f})
}

// Unsub asks for the end of a client's subscription.
func (b *Broker) Unsub(client int, n uint64) (api.ID, api.Errno) {
	return b.ask(api.Entry{Kind: api.EUnsub, Client: client, Sub: n})
}

// ask asks for an entry at once.
func (b *Broker) ask(x api.Entry) (api.ID, api.Errno) {
	return b.take(x.Client, func(l []api.Txn, id api.ID) ([]api.Txn, api.Errno) {
		x.ID = id
		return stage.Ask(l, x)
	})
}

// change lets the transactions be others, unless that is refused.
func (b *Broker) change(l []api.Txn, told api.Errno) api.Errno {
	if told == api.OK {
		b.txns = l
	}
	return told
}

// Publish lays an event in a transaction.
func (b *Broker) Publish(id api.ID, e api.Event) api.Errno {
	if b == nil {
		return api.ErrArg
	}
	return b.change(stage.Publish(b.txns, id, e))
}

// Commit asks for a transaction.
func (b *Broker) Commit(id api.ID) api.Errno {
	if b == nil {
		return api.ErrArg
	}
	return b.change(stage.Commit(b.txns, id))
}

// Abort takes a transaction away that was not asked for.
func (b *Broker) Abort(id api.ID) api.Errno {
	if b == nil {
		return api.ErrArg
	}
	return b.change(stage.Abort(b.txns, id))
}

// Status is what is known of one that was asked for.
func (b *Broker) Status(id api.ID) int {
	if b == nil {
		return api.SUnknown
	}
	t, is := stage.Find(b.txns, id)
	switch {
	case fold.Has(b.state, id):
		return api.SListed
	case b.aborted(id):
		return api.SAborted
	case !is:
		return api.SUnknown
	case t.Asked:
		return api.SAsked
	}
	return api.SOpen
}

// Poll is a client's next batch from a place of the list on, and the place behind it.
func (b *Broker) Poll(client, from int) ([]api.Event, int, api.Errno) {
	if b == nil {
		return nil, 0, api.ErrArg
	}
	if !b.home(client) {
		return nil, 0, api.ErrHome
	}
	if from < 0 || from > len(b.state.List) {
		return nil, 0, api.ErrArg
	}
	var subs []api.Subscription
	for at, x := range b.state.List {
		if at >= from {
			if batch := table.Batch(subs, client, x); len(batch) > 0 {
				return batch, at + 1, api.OK
			}
		}
		subs = behind(subs, []int{client}, x)
	}
	return nil, len(b.state.List), api.OK
}

// behind are some clients' subscriptions behind entries of the list.
func behind(subs []api.Subscription, clients []int, l ...api.Entry) []api.Subscription {
	for _, x := range l {
		if x.Kind != api.EPublish && slices.Contains(clients, x.Client) {
			subs = table.Apply(subs, x)
		}
	}
	return subs
}
