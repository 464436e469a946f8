package broker

import (
	"maps"
	"slices"

	"postilion/api"
	"postilion/entry"
	"postilion/fold"
	"postilion/order"
	"postilion/stage"
	"postilion/table"
	"postilion/tree"
	"postilion/vote"
	"postilion/wire"
)

// heard are the kids' last reports, kids rising; of one that told nothing yet an empty one.
func (b *Broker) heard() []api.Message {
	var l []api.Message
	for _, kid := range b.kids() {
		l = append(l, b.reports[kid])
	}
	return l
}

// asks are the entries that are asked for here, or below.
func (b *Broker) asks() []api.Entry {
	all := stage.Asks(b.txns)
	for _, m := range b.heard() {
		all = append(all, m.Asks...)
	}
	var out []api.Entry
	seen := map[api.ID]struct{}{}
	for _, x := range all {
		_, again := seen[x.ID]
		if again || len(out) == api.MaxList || fold.Has(b.state, x.ID) || b.aborted(x.ID) {
			continue
		}
		seen[x.ID] = struct{}{}
		out = append(out, x)
	}
	return out
}

// work lets the root list what may be listed, and decide what waits.
func (b *Broker) work() {
	if _, below := b.parent(); below {
		return
	}
	waits, listed := order.Admit(b.state, b.waits, b.asks())
	unnoted(listed, b.list)
	yes, no, _ := order.Decide(waits, b.heard())
	agreed := map[api.ID]struct{}{}
	for _, x := range yes {
		agreed[x.ID] = struct{}{}
	}
	b.waits = unnoted(waits, func(x api.Entry) bool {
		if _, is := agreed[x.ID]; is {
			return b.list(x)
		}
		return slices.Contains(no, x.ID) && b.abort(x.ID)
	})
}

// Handle takes a message.
func (b *Broker) Handle(from int, m []byte) api.Errno {
	if b == nil {
		return api.ErrArg
	}
	parent, below := b.parent()
	kid := slices.Contains(b.kids(), from)
	if !kid && (!below || from != parent) {
		return api.ErrFrom
	}
	said, told := wire.Decode(m)
	if told != api.OK {
		return told
	}
	switch {
	case kid && said.Kind == api.MReport:
		b.reports[from] = said
		b.work()
	case !kid && said.Kind == api.MCommand:
		b.obey(said)
	default:
		return api.ErrFrom
	}
	return api.OK
}

// obey does what the parent commands.
func (b *Broker) obey(m api.Message) {
entries:
	for i, x := range m.Entries {
		switch {
		case m.Have+uint64(i) != uint64(len(b.state.List)):
			continue entries
		case !b.list(x):
			break entries
		}
	}
	for _, id := range m.Aborts {
		if !b.aborted(id) {
			b.told[id] = struct{}{}
			b.settle(id)
			b.forget(id)
		}
	}
	unnoted(m.Ends, b.forget)
	b.refused = b.prepare(m.Prepares)
}

// prepare promises what may come, and answers who is refused.
func (b *Broker) prepare(l []api.Entry) []api.ID {
	var refused []api.ID
	var may []api.Entry
	for _, x := range l {
		if _, told := b.told[x.ID]; told {
			refused = append(refused, x.ID)
		} else {
			may = append(may, x)
		}
	}
	promised, others := vote.Promise(b.state, may)
	refused = append(refused, others...)
	for _, x := range unnoted(promised, b.promise) {
		refused = append(refused, x.ID)
	}
	return refused
}

// Tick are the messages that a broker sends.
func (b *Broker) Tick() []api.Out {
	if b == nil {
		return nil
	}
	b.work()
	var out []api.Out
	send := func(to int, m api.Message) {
		if bytes, told := wire.Encode(m); told == api.OK {
			out = append(out, api.Out{To: to, B: bytes})
		}
	}
	if parent, below := b.parent(); below {
		send(parent, b.report())
	}
	for _, kid := range b.kids() {
		send(kid, b.command(kid))
	}
	return out
}

// report is what the parent is told.
func (b *Broker) report() api.Message {
	return api.Message{
		Kind:  api.MReport,
		Have:  uint64(len(b.state.List)),
		Votes: vote.Tally(b.state.Promises, b.refused, b.heard()),
		Asks:  b.asks(),
	}
}

// view is a list as some clients have it, by their subscriptions at a place.
type view struct {
	clients []int
	list    []api.Entry
	subs    []api.Subscription
	place   int
}

// cut is an entry, cut by the subscriptions at a place, which is none ahead of those that were asked before.
func (v *view) cut(x api.Entry, place int) api.Entry {
	if x.Kind != api.EPublish {
		// Nothing is cut of it: so one need not know the subscriptions, which takes long.
		return x
	}
	v.subs = behind(v.subs, v.clients, v.list[v.place:place]...)
	v.place = place
	return table.Cut(v.subs, v.clients, x)
}

// command is what a kid is told.
func (b *Broker) command(kid int) api.Message {
	heard, list := b.reports[kid], b.state.List
	have := min(heard.Have, uint64(len(list)))
	v := &view{clients: b.clients(kid), list: list}
	var entries, prepares []api.Entry
	for i, x := range order.From(list, have) {
		entries = append(entries, v.cut(x, int(have)+i))
	}
	for _, x := range b.coming() {
		prepares = append(prepares, v.cut(x, len(list)))
	}
	return api.Message{
		Kind:     api.MCommand,
		Have:     have,
		Entries:  entries,
		Prepares: prepares,
		Aborts:   order.Told(b.gone(), heard.Asks),
		Ends:     vote.Ends(b.state, b.waits, heard),
	}
}

// coming are the first of those entries that may come.
func (b *Broker) coming() []api.Entry {
	l := b.waits
	if _, below := b.parent(); below {
		l = b.state.Promises
	}
	return l[:min(len(l), api.MaxList)]
}

// gone is what is known aborted.
func (b *Broker) gone() []api.ID {
	told := slices.SortedFunc(maps.Keys(b.told), func(x, y api.ID) int {
		if entry.Less(x, y) {
			return -1
		}
		return 1
	})
	return slices.Concat(b.state.Aborted, told)
}

// clients are those at home at a kid, or below it.
func (b *Broker) clients(kid int) []int {
	var l []int
	for client, home := range b.homes {
		if tree.Up(b.parents, kid, home) {
			l = append(l, client)
		}
	}
	return l
}
