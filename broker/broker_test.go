package broker

import (
	"math"
	"reflect"
	"slices"
	"testing"

	"postilion/api"
	"postilion/disk"
	"postilion/entry"
	"postilion/fold"
	"postilion/own"
	"postilion/value"
	"postilion/wal"
	"postilion/wire"
)

// tree1 are the parents of the tests: 0 has the kids 1 and 2, 1 has 3. homes1 are the clients': 0 at 0, 1 and 2 at 1, 3 at 2, 4 at 3.
func tree1() []int  { return []int{-1, 0, 0, 1} }
func homes1() []int { return []int{0, 1, 1, 2, 3} }

// made is a disk of so much room.
func made(t *testing.T, room int) *disk.Disk {
	t.Helper()
	d, told := disk.New(room)
	if told != api.OK {
		t.Fatal(told)
	}
	return d
}

// fresh is the broker me of the tests' tree, and its disk.
func fresh(t *testing.T, me int) (*Broker, *disk.Disk) {
	t.Helper()
	d := made(t, 20000)
	b, told := Open(me, tree1(), homes1(), d)
	if told != api.OK {
		t.Fatal(told)
	}
	return b, d
}

// alone is a single broker, the clients 0 and 1 at home there.
func alone(t *testing.T, room int) (*Broker, *disk.Disk) {
	t.Helper()
	d := made(t, room)
	b, told := Open(0, []int{-1}, []int{0, 0}, d)
	if told != api.OK {
		t.Fatal(told)
	}
	return b, d
}

// id is an ID of the broker 9; p and q are events; is is a filter.
func id(n uint64) api.ID { return api.ID{Broker: 9, Life: 2, Serial: n} }

func ids(l ...uint64) []api.ID {
	var out []api.ID
	for _, n := range l {
		out = append(out, id(n))
	}
	return out
}

func p(n int64) api.Event { return api.Event{{Name: "p", Value: value.Int(n)}} }
func q(n int64) api.Event { return api.Event{{Name: "q", Value: value.Int(n)}} }

func is(name string) api.Filter { return api.Filter{{Name: name, Op: api.TIs}} }

// pub, sub and unsub are entries of the broker 9.
func pub(n uint64, l ...api.Event) api.Entry {
	return api.Entry{Kind: api.EPublish, ID: id(n), Events: l}
}

func pubs(l ...uint64) []api.Entry {
	var out []api.Entry
	for _, n := range l {
		out = append(out, pub(n, p(int64(n))))
	}
	return out
}

func sub(n uint64, client int, f api.Filter) api.Entry {
	return api.Entry{Kind: api.ESub, ID: id(n), Client: client, Sub: 1, Filter: f}
}

func unsub(n uint64, client int) api.Entry {
	return api.Entry{Kind: api.EUnsub, ID: id(n), Client: client, Sub: 1}
}

// votes are some: of numbers above 0 with a yes, of those below with a no.
func votes(l ...int) []api.Vote {
	var out []api.Vote
	for _, n := range l {
		out = append(out, api.Vote{ID: id(uint64(max(n, -n))), Yes: n > 0})
	}
	return out
}

// hand hands a message to a broker.
func hand(t *testing.T, b *Broker, from int, m api.Message) api.Errno {
	t.Helper()
	bytes, told := wire.Encode(m)
	if told != api.OK {
		t.Fatalf("a message of the tests is told %d", told)
	}
	return b.Handle(from, bytes)
}

// command hands a command to the broker 1, that must take it.
func command(t *testing.T, b *Broker, m api.Message) {
	t.Helper()
	m.Kind = api.MCommand
	if told := hand(t, b, 0, m); told != api.OK {
		t.Fatalf("a command is told %d", told)
	}
}

// report hands a kid's report to a broker, that must take it.
func report(t *testing.T, b *Broker, kid int, m api.Message) {
	t.Helper()
	m.Kind = api.MReport
	if told := hand(t, b, kid, m); told != api.OK {
		t.Fatalf("a report is told %d", told)
	}
}

// sent are the messages that a broker sends, by whom they are for.
func sent(t *testing.T, b *Broker) map[int]api.Message {
	t.Helper()
	all, last := map[int]api.Message{}, math.MinInt
	for _, o := range b.Tick() {
		m, told := wire.Decode(o.B)
		if told != api.OK {
			t.Fatalf("a message to %d is told %d", o.To, told)
		}
		if o.To < last {
			t.Fatalf("a message to %d is sent late", o.To)
		}
		all[o.To], last = m, o.To
	}
	return all
}

// serials are the serial numbers of entries.
func serials(l []api.Entry) []uint64 {
	var out []uint64
	for _, x := range l {
		out = append(out, x.ID.Serial)
	}
	return out
}

// listed are those of a broker's list; promised those of its promises; waiting those that wait.
func listed(b *Broker) []uint64   { return serials(b.State().List) }
func promised(b *Broker) []uint64 { return serials(b.State().Promises) }
func waiting(b *Broker) []uint64  { return serials(b.Waiting()) }

// same tells whether numbers are these.
func same(t *testing.T, what string, got []uint64, want ...uint64) {
	t.Helper()
	if !slices.Equal(got, want) {
		t.Errorf("%s: %v, not %v", what, got, want)
	}
}

// lasts asks that a broker's log says its state, whatever crashes.
func lasts(t *testing.T, b *Broker, d *disk.Disk) {
	t.Helper()
	c := made(t, api.MaxLog)
	c.Swap(d.Read()[:d.Lasting()])
	l, _ := wal.Open(c)
	s, told := fold.All(l.Records())
	if told != api.OK || !reflect.DeepEqual(own.State(s), b.State()) {
		t.Errorf("the log says %v, %d, not %v", s, told, b.State())
	}
}

// P20.1: what Open refuses.
func TestOpenErrors(t *testing.T) {
	many := make([]int, api.MaxClients+1)
	for i, c := range []struct {
		me             int
		parents, homes []int
		want           api.Errno
	}{
		{0, nil, homes1(), api.ErrTree}, {9, []int{-1, 1}, nil, api.ErrTree},
		{-1, tree1(), homes1(), api.ErrArg}, {4, tree1(), homes1(), api.ErrArg}, {math.MaxInt, tree1(), homes1(), api.ErrArg},
		{0, tree1(), nil, api.ErrArg}, {0, tree1(), many, api.ErrArg}, {0, tree1(), []int{0, 4}, api.ErrArg}, {0, tree1(), []int{-1}, api.ErrArg},
		{0, tree1(), many[1:], api.OK}, {3, tree1(), []int{3}, api.OK},
	} {
		if b, told := Open(c.me, c.parents, c.homes, made(t, 1000)); told != c.want || (b == nil) != (told != api.OK) {
			t.Errorf("%d is told %d", i, told)
		}
	}
	for _, parents := range [][]int{tree1(), nil} {
		if b, told := Open(0, parents, homes1(), nil); b != nil || told != api.ErrArg {
			t.Errorf("no disk is told %d", told)
		}
	}
}

// records lays records on a disk's log.
func records(t *testing.T, d *disk.Disk, l ...api.Record) {
	t.Helper()
	log, _ := wal.Open(d)
	for _, r := range l {
		b, _ := entry.Pack(r)
		if told := log.Append(b); told != api.OK {
			t.Fatal(told)
		}
	}
}

// P20.1, R3: a log that is refused: the disk is as it was.
func TestOpenLog(t *testing.T) {
	bad := made(t, 1000)
	log, _ := wal.Open(bad)
	log.Append([]byte{9})
	twice := made(t, 1000)
	records(t, twice, api.Record{Kind: api.RLife, N: 5})
	twice.Sync()
	records(t, twice, api.Record{Kind: api.RLife, N: 5})
	full := made(t, 5)
	full.Append([]byte("junk"))
	for i, c := range []struct {
		d    *disk.Disk
		want api.Errno
	}{{bad, api.ErrEntry}, {twice, api.ErrFold}, {full, api.ErrFull}, {made(t, 0), api.ErrFull}} {
		if i < 2 {
			c.d.Append([]byte("cut"))
		}
		was, last := c.d.Read(), c.d.Lasting()
		if b, told := Open(0, tree1(), homes1(), c.d); b != nil || told != c.want {
			t.Errorf("%d is told %d", i, told)
		}
		if !slices.Equal(c.d.Read(), was) || c.d.Lasting() != last {
			t.Errorf("%d: the disk holds %v, %d last", i, c.d.Read(), c.d.Lasting())
		}
	}
}

// P20.1: a life more, and a log that says no more than the state.
func TestOpenAgain(t *testing.T) {
	d := made(t, 1000)
	records(t, d, api.Record{Kind: api.RLife, N: 4}, api.Record{Kind: api.RPromise, Entry: pub(1)}, api.Record{Kind: api.RPromise, Entry: pub(2)},
		api.Record{Kind: api.RPromise, Entry: pub(3)}, api.Record{Kind: api.REntry, Entry: pub(1, p(1))}, api.Record{Kind: api.RForget, ID: id(3)}, api.Record{Kind: api.RAbort, ID: id(4)})
	d.Append([]byte("cut"))
	b, told := Open(1, tree1(), homes1(), d)
	want := api.State{Life: 5, List: []api.Entry{pub(1, p(1))}, Promises: []api.Entry{pub(2)}, Aborted: ids(4)}
	if told != api.OK || !reflect.DeepEqual(b.State(), want) || len(b.Waiting()) != 0 || len(b.Stage()) != 0 {
		t.Errorf("%v, %d", b.State(), told)
	}
	lasts(t, b, d)
	log, _ := wal.Open(d)
	if l, _ := fold.Records(want); !reflect.DeepEqual(log.Records(), l) || d.Lasting() != len(d.Read()) {
		t.Errorf("the log is %v", log.Records())
	}
	fresh1, _ := fresh(t, 0)
	if s := fresh1.State(); s.Life != 1 || len(s.List) != 0 {
		t.Errorf("a new one: %v", s)
	}
}

// P20.2: IDs, and who is at home.
func TestBegin(t *testing.T) {
	b, _ := fresh(t, 1)
	one, told := b.Begin(1)
	if told != api.OK || one != (api.ID{Broker: 1, Life: 1, Serial: 1}) {
		t.Errorf("%v, %d", one, told)
	}
	bad := api.Filter{{Name: "P"}}
	for _, client := range []int{0, 3, 4, 5, -1, math.MinInt, math.MaxInt} {
		x, told1 := b.Begin(client)
		y, told2 := b.Sub(client, 1, bad)
		z, told3 := b.Unsub(client, 1)
		if told1 != api.ErrHome || told2 != api.ErrHome || told3 != api.ErrHome || x != (api.ID{}) || y != (api.ID{}) || z != (api.ID{}) {
			t.Errorf("%d: %d, %d, %d", client, told1, told2, told3)
		}
	}
	if x, told := b.Sub(2, 7, bad); told != api.ErrEntry || x != (api.ID{}) {
		t.Errorf("a filter that may not be: %v, %d", x, told)
	}
	two, _ := b.Sub(2, 7, is("p"))
	three, _ := b.Unsub(1, 8)
	if two.Serial != 2 || three.Serial != 3 {
		t.Errorf("%v, %v", two, three)
	}
	want := []api.Txn{
		{Entry: api.Entry{Kind: api.EPublish, ID: one, Client: 1}},
		{Entry: api.Entry{Kind: api.ESub, ID: two, Client: 2, Sub: 7, Filter: is("p")}, Asked: true},
		{Entry: api.Entry{Kind: api.EUnsub, ID: three, Client: 1, Sub: 8}, Asked: true},
	}
	if l := b.Stage(); !reflect.DeepEqual(l, want) {
		t.Errorf("%v", l)
	}
	for range 5 {
		b.Begin(1)
	}
	if _, told := b.Begin(1); told != api.ErrMany {
		t.Errorf("one too many: %d", told)
	}
	if b.Abort(one); b.Status(one) != api.SUnknown {
		t.Error("aborted by its client")
	}
	if x, _ := b.Begin(1); x.Serial != 9 {
		t.Errorf("behind an error: %v", x)
	}
}

// P20.2: Publish, Commit, Abort and Status.
func TestStatus(t *testing.T) {
	b, d := fresh(t, 1)
	x, _ := b.Begin(1)
	if b.Status(x) != api.SOpen || b.Publish(x, p(1)) != api.OK || b.Publish(x, nil) != api.ErrEvent {
		t.Error("an open one")
	}
	if b.Publish(id(1), p(1)) != api.ErrTxn || b.Commit(id(1)) != api.ErrTxn || b.Abort(id(1)) != api.ErrTxn || b.Status(id(1)) != api.SUnknown {
		t.Error("one that is not there")
	}
	if b.Commit(x) != api.OK || b.Status(x) != api.SAsked || b.Commit(x) != api.ErrTxn || b.Abort(x) != api.ErrTxn || b.Publish(x, p(1)) != api.ErrTxn {
		t.Error("one that is asked for")
	}
	y, _ := b.Begin(1)
	b.Commit(y)
	command(t, b, api.Message{Entries: []api.Entry{{Kind: api.EPublish, ID: x, Client: 1}}, Aborts: []api.ID{y}})
	if b.Status(x) != api.SListed || b.Status(y) != api.SAborted || len(b.Stage()) != 0 {
		t.Errorf("settled: %d, %d", b.Status(x), b.Status(y))
	}
	d.Crash(0)
	again, told := Open(1, tree1(), homes1(), d)
	if told != api.OK || again.Status(x) != api.SListed || again.Status(y) != api.SUnknown {
		t.Errorf("behind a crash: %d, %d", again.Status(x), again.Status(y))
	}
	if z, _ := again.Begin(2); z != (api.ID{Broker: 1, Life: 2, Serial: 1}) {
		t.Errorf("behind a crash: %v", z)
	}
	root, _ := alone(t, 1000)
	x, _ = root.Begin(0)
	root.abort(x)
	if root.Status(x) != api.SAborted {
		t.Errorf("in the log: %d", root.Status(x))
	}
}

// P20.3: batches, by the subscriptions at each place.
func TestPoll(t *testing.T) {
	b, _ := fresh(t, 1)
	over := api.Filter{{Name: "p", Op: api.TGt, Value: value.Int(5)}}
	for i, x := range []api.Entry{pub(1, p(9)), sub(2, 1, over), pub(3, p(9), p(1), p(7)), pub(4, p(1)), sub(5, 2, is("p")), sub(6, 1, is("q")), pub(7, p(9), q(1)), unsub(8, 1), pub(9, p(9), q(1)), pub(10)} {
		command(t, b, api.Message{Have: uint64(i), Entries: []api.Entry{x}})
	}
	for i, c := range []struct {
		client, from int
		batch        []api.Event
		at           int
		want         api.Errno
	}{
		{1, 0, []api.Event{p(9), p(7)}, 3, api.OK},
		{1, 2, []api.Event{p(9), p(7)}, 3, api.OK},
		{1, 3, []api.Event{q(1)}, 7, api.OK},
		{1, 7, nil, 10, api.OK},
		{1, 10, nil, 10, api.OK},
		{2, 0, []api.Event{p(9)}, 7, api.OK},
		{2, 7, []api.Event{p(9)}, 9, api.OK},
		{2, 9, nil, 10, api.OK},
		{1, 11, nil, 0, api.ErrArg}, {1, -1, nil, 0, api.ErrArg}, {2, math.MinInt, nil, 0, api.ErrArg},
		{0, 0, nil, 0, api.ErrHome}, {3, 99, nil, 0, api.ErrHome}, {-1, 0, nil, 0, api.ErrHome}, {5, 0, nil, 0, api.ErrHome},
	} {
		batch, at, told := b.Poll(c.client, c.from)
		if !reflect.DeepEqual(batch, c.batch) || at != c.at || told != c.want {
			t.Errorf("%d: %v, %d, %d", i, batch, at, told)
		}
	}
}

// P20.4: the document's example, of a single broker.
func TestAlone(t *testing.T) {
	b, d := alone(t, 10000)
	s, _ := b.Sub(0, 7, is("p"))
	x, _ := b.Begin(0)
	b.Publish(x, p(5))
	b.Commit(x)
	if l := b.Tick(); len(l) != 0 {
		t.Errorf("it sends %v", l)
	}
	if b.Status(s) != api.SListed || b.Status(x) != api.SListed || len(b.Stage()) != 0 || len(b.Waiting()) != 0 {
		t.Errorf("%d, %d", b.Status(s), b.Status(x))
	}
	batch, at, told := b.Poll(0, 0)
	if !reflect.DeepEqual(batch, []api.Event{p(5)}) || at != 2 || told != api.OK {
		t.Errorf("%v, %d, %d", batch, at, told)
	}
	if batch, at, told := b.Poll(0, 2); len(batch) != 0 || at != 2 || told != api.OK {
		t.Errorf("%v, %d, %d", batch, at, told)
	}
	lasts(t, b, d)
}

// P20.4: what is asked for is opened or listed, and decided as the kids vote, in the order in which it waits.
func TestRoot(t *testing.T) {
	b, d := fresh(t, 0)
	report(t, b, 1, api.Message{Asks: []api.Entry{pub(1, p(1)), sub(2, 1, is("p")), pub(3, p(3)), pub(4)}})
	same(t, "listed at once", listed(b), 2)
	same(t, "waiting", waiting(b), 1, 3, 4)
	report(t, b, 2, api.Message{Votes: votes(4, 3, -1), Asks: []api.Entry{pub(5), pub(6), unsub(7, 1), pub(3)}})
	same(t, "with a no", listed(b), 2, 7)
	same(t, "with a no, waiting", waiting(b), 3, 4, 5)
	if b.Status(id(1)) != api.SAborted || !slices.Equal(b.State().Aborted, ids(1)) {
		t.Errorf("aborted: %v", b.State().Aborted)
	}
	report(t, b, 1, api.Message{Votes: votes(4, 3, 5)})
	same(t, "with all yes", listed(b), 2, 7, 3, 4)
	same(t, "there was room again", waiting(b), 5, 6)
	lasts(t, b, d)
	// What is aborted, or listed, is not admitted again.
	report(t, b, 1, api.Message{Asks: []api.Entry{pub(1), pub(3), sub(2, 1, nil)}})
	same(t, "asked again", listed(b), 2, 7, 3, 4)
	same(t, "asked again, waiting", waiting(b), 5, 6)
}

// P20.4: an abort settles the root's own transaction.
func TestRootAborts(t *testing.T) {
	b, d := fresh(t, 0)
	x, _ := b.Begin(0)
	b.Commit(x)
	b.Tick()
	if len(b.Waiting()) != 1 || b.Status(x) != api.SAsked {
		t.Error("it does not wait")
	}
	report(t, b, 1, api.Message{Votes: []api.Vote{{ID: x}}})
	if b.Status(x) != api.SAborted || len(b.Stage()) != 0 || len(b.Waiting()) != 0 {
		t.Errorf("%d, %v", b.Status(x), b.Stage())
	}
	d.Crash(0)
	if again, _ := Open(0, tree1(), homes1(), d); again.Status(x) != api.SAborted {
		t.Error("behind a crash")
	}
}

// P20.4: what finds no room on the disk is not noted: it is passed by, or waits.
func TestRootFull(t *testing.T) {
	b, d := alone(t, 60)
	wide := api.Filter{{Name: "p", Op: api.TEq, Value: value.Text("a text of so many bytes, it has")}}
	x, _ := b.Sub(0, 1, wide)
	y, _ := b.Begin(0)
	b.Publish(y, p(1))
	b.Commit(y)
	z, _ := b.Unsub(0, 1)
	b.Tick()
	if b.Status(x) != api.SAsked || b.Status(z) != api.SListed || b.Status(y) != api.SAsked || len(b.Waiting()) != 1 || len(b.State().List) != 1 {
		t.Errorf("%d, %d, %d", b.Status(x), b.Status(y), b.Status(z))
	}
	lasts(t, b, d)
}

// P20.4: a no that finds no room on the disk waits, too.
func TestRootFullNo(t *testing.T) {
	b, told := Open(0, []int{-1, 0}, []int{0}, made(t, 11))
	if told != api.OK {
		t.Fatal(told)
	}
	x, _ := b.Begin(0)
	b.Commit(x)
	b.Tick()
	report(t, b, 1, api.Message{Votes: []api.Vote{{ID: x}}})
	if len(b.Waiting()) != 1 || b.Status(x) != api.SAsked || len(b.State().Aborted) != 0 {
		t.Errorf("%v, %d", b.Waiting(), b.Status(x))
	}
}

// R4, P20.7: what is handed in, and answered, is nobody else's.
func TestOwnMemory(t *testing.T) {
	parents, homes := tree1(), homes1()
	b, _ := Open(0, parents, homes, made(t, 20000))
	clear(parents)
	for c := range homes {
		homes[c] = 2
	}
	f, e := is("p"), p(1)
	b.Sub(0, 1, f)
	x, _ := b.Begin(0)
	b.Publish(x, e)
	f[0].Name, e[0].Name = "z", "z"
	b.Stage()[0].Entry.Filter[0].Name = "z"
	b.Stage()[1].Entry.Events[0][0].Name = "z"
	b.Commit(x)
	b.Tick()
	b.Waiting()[0].Events[0][0].Name = "z"
	b.State().List[0].Filter[0].Name = "z"
	m, _ := wire.Encode(api.Message{Kind: api.MReport, Votes: []api.Vote{{ID: x, Yes: true}}})
	if b.Handle(1, m) != api.OK || b.Handle(2, m) != api.OK {
		t.Error("the tree is not kept")
	}
	clear(m)
	batch, _, _ := b.Poll(0, 0)
	if !reflect.DeepEqual(batch, []api.Event{p(1)}) {
		t.Fatalf("%v", batch)
	}
	batch[0][0].Name = "z"
	if again, _, _ := b.Poll(0, 0); !reflect.DeepEqual(again, []api.Event{p(1)}) {
		t.Errorf("again %v", again)
	}
}

// R1: no broker, and one that Open did not make.
func TestNil(t *testing.T) {
	var no *Broker
	for b, want := range map[*Broker][]api.Errno{no: {api.ErrArg, api.ErrArg, api.ErrArg}, {}: {api.ErrHome, api.ErrTxn, api.ErrFrom}} {
		_, told1 := b.Begin(0)
		_, told2 := b.Sub(0, 1, nil)
		_, told3 := b.Unsub(0, 1)
		_, _, told4 := b.Poll(0, 0)
		if told1 != want[0] || told2 != want[0] || told3 != want[0] || told4 != want[0] {
			t.Errorf("%v: %d, %d, %d, %d", b, told1, told2, told3, told4)
		}
		if b.Publish(id(1), p(1)) != want[1] || b.Commit(id(1)) != want[1] || b.Abort(id(1)) != want[1] || b.Handle(0, nil) != want[2] || b.Handle(-1, nil) != want[2] {
			t.Errorf("%v", b)
		}
		if b.Status(id(1)) != api.SUnknown || len(b.Tick()) != 0 || len(b.Waiting()) != 0 || len(b.Stage()) != 0 || !reflect.DeepEqual(b.State(), api.State{}) {
			t.Errorf("%v has something", b)
		}
	}
}
