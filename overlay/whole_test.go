package overlay

import (
	"math/rand"
	"reflect"
	"slices"
	"testing"

	"postilion/api"
	"postilion/own"
	"postilion/table"
	"postilion/tree"
)

// play is a world that chance plays with, and what its clients asked for.
type play struct {
	t              *testing.T
	r              *rand.Rand
	w              *World
	parents, homes []int
	open           map[api.ID]api.Entry // transactions that are open, with what was published
	asked          map[api.ID]api.Entry // what was asked for
	after          map[api.ID]int       // how many entries were known to be listed when one began
	list           []api.Entry          // the root's, as it was last
	cursors        []int
}

// started is a new one, with disks of so much room.
func started(t *testing.T, r *rand.Rand, room int) *play {
	p := &play{t: t, r: r, parents: []int{-1}, open: map[api.ID]api.Entry{}, asked: map[api.ID]api.Entry{}, after: map[api.ID]int{}}
	for range r.Intn(6) {
		p.parents = append(p.parents, r.Intn(len(p.parents)))
	}
	for range 1 + r.Intn(6) {
		p.homes = append(p.homes, r.Intn(len(p.parents)))
	}
	p.cursors = make([]int, len(p.homes))
	var told api.Errno
	if p.w, told = New(p.parents, p.homes, room); told != api.OK {
		t.Fatal(told)
	}
	return p
}

// event is one that chance makes; filter is one.
func (p *play) event() api.Event {
	e := api.Event{}
	for _, name := range []string{"a", "b", "c"} {
		if p.r.Intn(4) > 0 {
			e = append(e, api.Attr{Name: name, Value: api.Value{Kind: api.VInt, N: int64(p.r.Intn(4))}})
		}
	}
	return e
}

func (p *play) filter() api.Filter {
	var f api.Filter
	for range p.r.Intn(2) {
		f = append(f, api.Test{Name: string(rune('a' + p.r.Intn(2))), Op: 1 + p.r.Intn(6), Value: api.Value{Kind: api.VInt, N: int64(p.r.Intn(4))}})
	}
	return f
}

// begun notes what was known to be listed when something began.
func (p *play) begun(id api.ID) {
	most := 0
	for n := range p.parents {
		most = max(most, len(p.w.State(n).List))
	}
	p.after[id] = most
}

// picked is one of some IDs.
func picked(r *rand.Rand, l map[api.ID]api.Entry) api.ID {
	var ids []api.ID
	for id := range l {
		ids = append(ids, id)
	}
	if len(ids) == 0 {
		return api.ID{}
	}
	slices.SortFunc(ids, func(a, b api.ID) int {
		return (a.Broker-b.Broker)*1000000 + (int(a.Life)-int(b.Life))*1000 + int(a.Serial) - int(b.Serial)
	})
	return ids[r.Intn(len(ids))]
}

// client lets a client do something.
func (p *play) client() {
	c := p.r.Intn(len(p.homes))
	id := picked(p.r, p.open)
	if p.r.Intn(8) > 0 && len(p.open) > 0 {
		c = p.open[id].Client
	}
	switch p.r.Intn(9) {
	case 0, 1:
		if id, told := p.w.Begin(c); told == api.OK {
			p.open[id] = api.Entry{Kind: api.EPublish, ID: id, Client: c}
			p.begun(id)
		}
	case 2, 3, 4:
		e := p.event()
		if p.w.Publish(c, id, e) == api.OK {
			x := p.open[id]
			x.Events = append(x.Events, e)
			p.open[id] = x
		}
	case 5:
		if p.w.Commit(c, id) == api.OK {
			p.asked[id] = p.open[id]
			delete(p.open, id)
		}
	case 6:
		if p.w.Abort(c, id) == api.OK {
			delete(p.open, id)
		}
	case 7:
		n, f := uint64(p.r.Intn(3)), p.filter()
		if id, told := p.w.Sub(c, n, f); told == api.OK {
			p.asked[id] = api.Entry{Kind: api.ESub, ID: id, Client: c, Sub: n, Filter: f}
			p.begun(id)
		}
	case 8:
		n := uint64(p.r.Intn(3))
		if id, told := p.w.Unsub(c, n); told == api.OK {
			p.asked[id] = api.Entry{Kind: api.EUnsub, ID: id, Client: c, Sub: n}
			p.begun(id)
		}
	}
}

// step lets a client, a broker or the net do something.
func (p *play) step() {
	n, m := p.r.Intn(len(p.parents)), p.r.Intn(len(p.parents))
	switch p.r.Intn(14) {
	case 0, 1, 2, 3:
		p.client()
	case 4, 5:
		p.w.Tick(n)
	case 6, 7, 8:
		p.w.Deliver(n, m)
	case 9:
		p.w.Drop(n, m)
	case 10:
		p.w.Twice(n, m)
		p.w.Turn(m, n)
	case 11:
		if p.r.Intn(3) == 0 {
			p.w.Crash(n, p.r.Intn(50))
		}
		p.w.Restart(m)
	case 12:
		p.w.Poll(p.r.Intn(len(p.homes)))
	case 13:
		if p.r.Intn(3) == 0 {
			p.w.Round()
		}
	}
}

// alike tells whether two lists of entries are alike; lists without elements are.
func alike(a, b []api.Entry) bool {
	return reflect.DeepEqual(own.Entries(a), own.Entries(b))
}

// clients are those at home at a broker, or below it.
func (p *play) clients(n int) []int {
	var l []int
	for c, home := range p.homes {
		if tree.Up(p.parents, n, home) {
			l = append(l, c)
		}
	}
	return l
}

// check asks all that holds at any time.
func (p *play) check() {
	p.t.Helper()
	root := p.w.State(0)
	p.checkList(root)
	// W1, P21.6: each broker has a beginning of the list, cut for its clients; each client just its batches.
	for n := 1; n < len(p.parents); n++ {
		var subs []api.Subscription
		s, clients := p.w.State(n), p.clients(n)
		if len(s.List) > len(root.List) {
			p.t.Fatalf("the broker %d has more than the root", n)
		}
		for i, x := range s.List {
			if !alike([]api.Entry{x}, []api.Entry{table.Cut(subs, clients, root.List[i])}) {
				p.t.Fatalf("the broker %d has %v for %v", n, x, root.List[i])
			}
			subs = table.Apply(subs, x)
		}
		// W3: what the root aborted nobody lists; what it listed nobody aborts.
		for _, x := range s.List {
			if slices.Contains(root.Aborted, x.ID) {
				p.t.Fatalf("%v is listed and aborted", x.ID)
			}
		}
	}
	for c := range p.homes {
		var subs []api.Subscription
		var want [][]api.Event
		at := p.w.Cursor(c)
		for i, x := range root.List[:at] {
			if batch := table.Batch(subs, c, x); len(batch) > 0 {
				want = append(want, batch)
			}
			subs = table.Apply(subs, root.List[i])
		}
		if got := p.w.Got(c); !reflect.DeepEqual(got, want) || at < p.cursors[c] {
			p.t.Fatalf("the client %d got %v, not %v, up to %d", c, got, want, at)
		}
		p.cursors[c] = at
	}
	p.list = root.List
}

// checkList asks what holds of the root's list: W1, W2, W5.
func (p *play) checkList(root api.State) {
	p.t.Helper()
	if len(root.List) < len(p.list) || !alike(root.List[:len(p.list)], p.list) {
		p.t.Fatalf("the list was %v, and is %v", p.list, root.List)
	}
	seen := map[api.ID]bool{}
	for i, x := range root.List {
		want, is := p.asked[x.ID]
		if !is || seen[x.ID] || !alike([]api.Entry{x}, []api.Entry{want}) {
			p.t.Fatalf("the list has %v, asked for was %v", x, want)
		}
		if i < p.after[x.ID] {
			p.t.Fatalf("%v stands at %d, but %d were listed when it began", x.ID, i, p.after[x.ID])
		}
		seen[x.ID] = true
	}
	for _, id := range root.Aborted {
		if seen[id] || p.asked[id].Kind != api.EPublish {
			p.t.Fatalf("%v is aborted", id)
		}
	}
}

// end lets all come up, and talk till nothing waits: W4, P21.7.
func (p *play) end() {
	p.t.Helper()
	for n := range p.parents {
		p.w.Restart(n)
	}
	rounds(p.w, 60+len(p.asked))
	p.check()
	long := len(p.w.State(0).List)
	for n := range p.parents {
		if p.w.Busy(n) != 0 || len(p.w.State(n).List) != long {
			p.t.Fatalf("the broker %d is busy with %d, and has %d of %d", n, p.w.Busy(n), len(p.w.State(n).List), long)
		}
	}
	for id, x := range p.asked {
		s, told := p.w.Status(x.Client, id)
		if told != api.OK || s == api.SOpen || s == api.SAsked {
			p.t.Fatalf("%v is %d, %d", x, s, told)
		}
	}
	for c := range p.homes {
		for p.w.Cursor(c) < long {
			p.w.Poll(c)
		}
	}
	p.check()
}

// P21.6, P21.7, W1 to W5: whatever is lost, doubled, turned about, or goes down.
func TestWhole(t *testing.T) {
	entries, batches := 0, 0
	for seed := range int64(150) {
		p := started(t, rand.New(rand.NewSource(seed)), 200000)
		p.steps()
		p.end()
		entries += len(p.list)
		batches += p.batches()
	}
	if entries < 1500 || batches < 150 {
		t.Errorf("only %d entries were listed, and %d batches polled", entries, batches)
	}
}

// P21.6, W1 to W3: likewise on disks that are soon full, where entries are refused.
func TestWholeFull(t *testing.T) {
	aborted := 0
	for seed := range int64(150) {
		r := rand.New(rand.NewSource(seed))
		p := started(t, r, 100+r.Intn(1500))
		p.steps()
		aborted += len(p.w.State(0).Aborted)
	}
	if aborted < 20 {
		t.Errorf("only %d entries were aborted", aborted)
	}
}

// steps are many, and checks.
func (p *play) steps() {
	p.t.Helper()
	for i := range 400 {
		p.step()
		if i%10 == 0 {
			p.check()
		}
	}
	p.check()
}

// batches is how many were polled.
func (p *play) batches() int {
	n := 0
	for c := range p.homes {
		n += len(p.w.Got(c))
	}
	return n
}
