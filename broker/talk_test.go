package broker

import (
	"math"
	"reflect"
	"slices"
	"testing"

	"postilion/api"
	"postilion/wire"
)

// P20.5: who may say what.
func TestHandleErrors(t *testing.T) {
	up, _ := wire.Encode(api.Message{Kind: api.MReport, Asks: []api.Entry{sub(1, 1, nil)}})
	down, _ := wire.Encode(api.Message{Kind: api.MCommand, Entries: pubs(1)})
	for i, c := range []struct {
		me, from int
		m        []byte
		want     api.Errno
	}{
		{1, 0, down, api.OK}, {1, 3, up, api.OK}, {0, 1, up, api.OK}, {0, 2, up, api.OK}, {3, 1, down, api.OK},
		{1, 0, up, api.ErrFrom}, {1, 3, down, api.ErrFrom}, {0, 1, down, api.ErrFrom},
		{1, 2, down, api.ErrFrom}, {1, 1, up, api.ErrFrom}, {0, 3, up, api.ErrFrom}, {0, -1, down, api.ErrFrom}, {3, 0, down, api.ErrFrom},
		{1, 4, nil, api.ErrFrom}, {1, math.MinInt, up, api.ErrFrom}, {1, math.MaxInt, up, api.ErrFrom},
		{1, 0, nil, api.ErrWire}, {1, 3, []byte{1, 1}, api.ErrWire}, {1, 0, append(down, 0), api.ErrWire},
	} {
		b, _ := fresh(t, c.me)
		was := b.Tick()
		if told := b.Handle(c.from, c.m); told != c.want {
			t.Errorf("%d is told %d", i, told)
		}
		if c.want != api.OK && (len(b.State().List) != 0 || !reflect.DeepEqual(b.Tick(), was)) {
			t.Errorf("%d changes something", i)
		}
	}
}

// P20.5: entries at the list's end are noted; others are not.
func TestEntries(t *testing.T) {
	b, d := fresh(t, 1)
	command(t, b, api.Message{Have: 1, Entries: pubs(1, 2)})
	same(t, "ahead of the end", listed(b))
	command(t, b, api.Message{Entries: pubs(1, 2)})
	same(t, "at the end", listed(b), 1, 2)
	command(t, b, api.Message{Entries: pubs(7, 8, 3, 4)})
	same(t, "from a place behind the end", listed(b), 1, 2, 3, 4)
	command(t, b, api.Message{Have: 4, Entries: pubs(5, 1, 6)})
	same(t, "one that is in the list", listed(b), 1, 2, 3, 4, 5)
	lasts(t, b, d)
	b, _ = fresh(t, 1)
	command(t, b, api.Message{Have: math.MaxUint64, Entries: pubs(9, 1, 2)})
	same(t, "numbers go round", listed(b), 1, 2)
	b, _ = fresh(t, 1)
	x, _ := b.Begin(1)
	b.Commit(x)
	command(t, b, api.Message{Prepares: pubs(1, 2)})
	same(t, "promised", promised(b), 1, 2)
	command(t, b, api.Message{Entries: append(pubs(2), api.Entry{Kind: api.EPublish, ID: x, Client: 1})})
	same(t, "no promise any more", promised(b), 1)
	if len(b.Stage()) != 0 {
		t.Error("its transaction is not settled")
	}
}

// P20.5: with one that finds no room, those behind it are not noted.
func TestEntriesFull(t *testing.T) {
	d := made(t, 60)
	b, _ := Open(1, tree1(), homes1(), d)
	big := pub(2, append(p(1), api.Attr{Name: "q", Value: api.Value{Kind: api.VText, S: "a text of so many bytes, it has"}}))
	command(t, b, api.Message{Entries: []api.Entry{pub(1), big, pub(3)}, Prepares: []api.Entry{big}})
	same(t, "listed", listed(b), 1)
	if m := sent(t, b)[0]; !reflect.DeepEqual(m.Votes, votes(-2)) {
		t.Errorf("what finds no room is refused: %v", m.Votes)
	}
	lasts(t, b, d)
}

// P20.5: aborts and ends.
func TestAborts(t *testing.T) {
	b, d := fresh(t, 1)
	x, _ := b.Begin(1)
	b.Commit(x)
	command(t, b, api.Message{Prepares: pubs(1, 2, 3)})
	command(t, b, api.Message{Aborts: append(ids(1, 7, 1), x), Ends: ids(2, 9)})
	same(t, "promised", promised(b), 3)
	if b.Status(x) != api.SAborted || b.Status(id(1)) != api.SAborted || b.Status(id(7)) != api.SAborted || b.Status(id(2)) != api.SUnknown || len(b.Stage()) != 0 {
		t.Error("what is told aborted")
	}
	if len(b.State().Aborted) != 0 {
		t.Error("what is told aborted is not noted")
	}
	lasts(t, b, d)
	// What is known aborted is left alone.
	b.state.Promises = append(b.state.Promises, pub(7))
	command(t, b, api.Message{Aborts: ids(7)})
	same(t, "promised again", promised(b), 3, 7)
}

// P20.5: what is promised, and who is refused, in its order.
func TestPrepares(t *testing.T) {
	b, d := fresh(t, 3)
	say := func(m api.Message) {
		t.Helper()
		m.Kind = api.MCommand
		if told := hand(t, b, 1, m); told != api.OK {
			t.Fatal(told)
		}
	}
	say(api.Message{Prepares: pubs(1, 2, 1)})
	same(t, "promised", promised(b), 1, 2)
	say(api.Message{Aborts: ids(5, 2), Entries: pubs(9)})
	say(api.Message{Prepares: pubs(11, 9, 12, 2, 13, 14, 1, 15, 16, 5, 17)})
	same(t, "promised, up to the limit", promised(b), 1, 11, 12, 13, 14, 15)
	if m := sent(t, b)[1]; !reflect.DeepEqual(m.Votes, votes(1, 11, 12, 13, 14, 15, -2, -5, -16, -17)) {
		t.Errorf("%v", m.Votes)
	}
	say(api.Message{Prepares: pubs(18)})
	if m := sent(t, b)[1]; !reflect.DeepEqual(m.Votes, votes(1, 11, 12, 13, 14, 15, -18)) {
		t.Errorf("of the last command: %v", m.Votes)
	}
	say(api.Message{Ends: ids(12), Prepares: pubs(18)})
	same(t, "there is room again", promised(b), 1, 11, 13, 14, 15, 18)
	lasts(t, b, d)
}

// P20.6: what is asked for here, and below.
func TestAsks(t *testing.T) {
	b, _ := fresh(t, 1)
	var mine []api.ID
	for range 6 {
		x, _ := b.Begin(1)
		b.Publish(x, p(1))
		mine = append(mine, x)
	}
	for _, x := range mine[1:] {
		b.Commit(x)
	}
	same(t, "first", serials(sent(t, b)[0].Asks), 2, 3, 4, 5)
	report(t, b, 3, api.Message{Asks: []api.Entry{pub(31), sub(32, 4, nil), pub(31), {Kind: api.EPublish, ID: mine[1]}, pub(33, p(1), q(2))}})
	command(t, b, api.Message{Entries: []api.Entry{{Kind: api.EPublish, ID: mine[2]}}, Aborts: ids(32)})
	m := sent(t, b)[0]
	same(t, "with the kid's", serials(m.Asks), 2, 4, 5, 6, 31, 33)
	if !reflect.DeepEqual(m.Asks[5], pub(33, p(1), q(2))) || m.Have != 1 || m.Kind != api.MReport {
		t.Errorf("the report %v", m)
	}
	root, _ := Open(0, []int{-1, 0, 0}, []int{0}, made(t, 20000))
	var many, more []api.Entry
	for n := range uint64(16) {
		many, more = append(many, pub(n)), append(more, pub(100+n))
	}
	report(t, root, 2, api.Message{Asks: more})
	report(t, root, 1, api.Message{Asks: many[:14]})
	same(t, "the first ones", serials(root.asks()), 0, 1, 2, 3, 4, 5, 6, 7, 8, 9, 10, 11, 12, 13, 100, 101)
	if sent(t, root)[0].Kind != 0 {
		t.Error("the root reports")
	}
}

// P20.6: votes go up once all below say something.
func TestVotesUp(t *testing.T) {
	b, _ := fresh(t, 1)
	command(t, b, api.Message{Prepares: pubs(1, 2, 3)})
	if m := sent(t, b)[0]; len(m.Votes) != 0 {
		t.Errorf("the kid said nothing: %v", m.Votes)
	}
	report(t, b, 3, api.Message{Votes: votes(-2, 3, 4)})
	if m := sent(t, b)[0]; !reflect.DeepEqual(m.Votes, votes(-2, 3)) {
		t.Errorf("%v", m.Votes)
	}
	report(t, b, 3, api.Message{Votes: votes(1, 2)})
	if m := sent(t, b)[0]; !reflect.DeepEqual(m.Votes, votes(1, 2)) {
		t.Errorf("by the last report: %v", m.Votes)
	}
}

// P20.6: what kids are told: entries from where they are, cut for their clients.
func TestCommand(t *testing.T) {
	b, _ := fresh(t, 1)
	list := []api.Entry{sub(1, 4, is("p")), pub(2, p(1), q(1)), sub(3, 1, is("q")), pub(4, p(2), q(2)), unsub(5, 4), pub(6, p(3), q(3)), sub(7, 4, is("q"))}
	for i, x := range list {
		command(t, b, api.Message{Have: uint64(i), Entries: []api.Entry{x}})
	}
	command(t, b, api.Message{Prepares: []api.Entry{pub(8, p(4), q(4)), pub(9, p(5))}, Aborts: ids(20, 21)})
	m := sent(t, b)[3]
	want := []api.Entry{list[0], pub(2, p(1)), list[2], pub(4, p(2))}
	if m.Kind != api.MCommand || m.Have != 0 || !reflect.DeepEqual(m.Entries, want) {
		t.Errorf("at first: %v", m)
	}
	if !reflect.DeepEqual(m.Prepares, []api.Entry{pub(8, q(4)), pub(9)}) || len(m.Aborts) != 0 || len(m.Ends) != 0 {
		t.Errorf("what may come: %v", m)
	}
	report(t, b, 3, api.Message{Have: 3, Votes: votes(8, -2, 30, -31, 30), Asks: []api.Entry{pub(21), pub(40), pub(20), pub(21)}})
	m = sent(t, b)[3]
	want = []api.Entry{pub(4, p(2)), list[4], pub(6), list[6]}
	if m.Have != 3 || !reflect.DeepEqual(m.Entries, want) || !reflect.DeepEqual(m.Aborts, ids(21, 20)) || !reflect.DeepEqual(m.Ends, ids(30, 31)) {
		t.Errorf("then: %v", m)
	}
	for _, have := range []uint64{7, 8, math.MaxUint64} {
		report(t, b, 3, api.Message{Have: have})
		if m = sent(t, b)[3]; m.Have != 7 || len(m.Entries) != 0 || len(m.Prepares) != 2 {
			t.Errorf("from %d: %v", have, m)
		}
	}
	if l := sent(t, b); len(l) != 2 {
		t.Errorf("it sends to %d", len(l))
	}
}

// P20.6: a command has no more promises than a list of a message.
func TestCommandLong(t *testing.T) {
	d := made(t, 20000)
	for n := range uint64(20) {
		records(t, d, api.Record{Kind: api.RPromise, Entry: pub(n)})
	}
	b, _ := Open(1, tree1(), homes1(), d)
	if m := sent(t, b)[3]; !reflect.DeepEqual(serials(m.Prepares), serials(pubs(0, 1, 2, 3, 4, 5, 6, 7, 8, 9, 10, 11, 12, 13, 14, 15))) {
		t.Errorf("%v", m.Prepares)
	}
}

// P20.6: the root's commands: what waits, and what its log says aborted; kids rising.
func TestRootCommand(t *testing.T) {
	b, _ := fresh(t, 0)
	report(t, b, 1, api.Message{Asks: []api.Entry{pub(1, p(1), q(1)), pub(2, p(2)), sub(3, 3, is("p")), sub(4, 4, is("q"))}, Votes: votes(-2, 1)})
	m := sent(t, b)
	if len(m) != 2 || !reflect.DeepEqual(m[1].Prepares, []api.Entry{pub(1, q(1))}) || !reflect.DeepEqual(m[2].Prepares, []api.Entry{pub(1, p(1))}) {
		t.Errorf("%v", m)
	}
	if !reflect.DeepEqual(m[1].Aborts, ids(2)) || len(m[2].Aborts) != 0 || len(m[1].Entries) != 2 || !slices.Equal(m[1].Ends, ids(2)) {
		t.Errorf("%v", m)
	}
	leaf, _ := fresh(t, 2)
	if l := leaf.Tick(); len(l) != 1 || l[0].To != 0 {
		t.Errorf("a leaf sends %v", l)
	}
	// What this tick lists is told at once.
	b, _ = alone(t, 1000)
	b, _ = Open(0, []int{-1, 0}, []int{0}, made(t, 1000))
	b.Sub(0, 1, nil)
	if m := sent(t, b)[1]; len(m.Entries) != 1 {
		t.Errorf("%v", m)
	}
}

// P20.8: messages that come twice, or late, do no harm: the list only grows.
func TestSaidAgain(t *testing.T) {
	b, d := fresh(t, 1)
	messages := []api.Message{
		{Entries: pubs(1, 2)}, {Prepares: pubs(3, 4)}, {Have: 2, Entries: pubs(3)}, {Aborts: ids(4)}, {Prepares: pubs(4, 5)}, {Ends: ids(5)},
	}
	for i := range messages {
		for j := range i + 1 {
			was := listed(b)
			command(t, b, messages[j])
			if now := listed(b); len(now) < len(was) || !slices.Equal(now[:len(was)], was) {
				t.Fatalf("%v, then %v", was, now)
			}
			if i > 3 && slices.Contains(promised(b), 4) {
				t.Fatalf("what is told aborted is promised: %v", promised(b))
			}
		}
	}
	same(t, "listed", listed(b), 1, 2, 3)
	d.Crash(0)
	again, told := Open(1, tree1(), homes1(), d)
	if told != api.OK || !slices.Equal(listed(again), listed(b)) || !slices.Equal(promised(again), promised(b)) {
		t.Errorf("behind a crash %v, %d", again.State(), told)
	}
}
