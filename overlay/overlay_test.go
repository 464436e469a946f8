package overlay

import (
	"math"
	"reflect"
	"slices"
	"testing"

	"postilion/api"
	"postilion/disk"
	"postilion/value"
	"postilion/wire"
)

// made is a world, that must be one: 0 has the kids 1 and 2, 1 has 3; the clients 0, 1 and 2 are at home at 3, 2 and 0.
func made(t *testing.T, room int) *World {
	t.Helper()
	w, told := New([]int{-1, 0, 0, 1}, []int{3, 2, 0}, room)
	if told != api.OK {
		t.Fatal(told)
	}
	return w
}

// pair is a world of two brokers, the client 0 at home at the lower one, the client 1 at the root.
func pair(t *testing.T, room int) *World {
	t.Helper()
	w, told := New([]int{-1, 0}, []int{1, 0}, room)
	if told != api.OK {
		t.Fatal(told)
	}
	return w
}

// p is an event; is is a filter.
func p(n int64) api.Event { return api.Event{{Name: "p", Value: value.Int(n)}} }

func is(name string) api.Filter { return api.Filter{{Name: name, Op: api.TIs}} }

// rounds lets all talk some times.
func rounds(w *World, n int) {
	for range n {
		w.Round()
	}
}

// commits publishes events of a client at once, and answers the transaction's ID.
func commits(t *testing.T, w *World, c int, l ...api.Event) api.ID {
	t.Helper()
	id, told := w.Begin(c)
	for _, e := range l {
		told = max(told, w.Publish(c, id, e))
	}
	if told = max(told, w.Commit(c, id)); told != api.OK {
		t.Fatalf("a transaction is told %d", told)
	}
	return id
}

// P21.1: what New refuses, in its order.
func TestNew(t *testing.T) {
	for i, c := range []struct {
		parents, homes []int
		room           int
		want           api.Errno
	}{
		{nil, nil, -1, api.ErrTree}, {[]int{-1, 1}, nil, -1, api.ErrTree},
		{[]int{-1, 0}, nil, -1, api.ErrArg}, {[]int{-1, 0}, []int{0}, api.MaxLog + 1, api.ErrArg},
		{[]int{-1, 0}, nil, 0, api.ErrArg}, {[]int{-1, 0}, []int{2}, 100, api.ErrArg}, {[]int{-1}, make([]int, api.MaxClients+1), 100, api.ErrArg},
		{[]int{-1, 0}, []int{1}, 3, api.ErrFull},
		{[]int{-1, 0}, []int{1}, 100, api.OK},
	} {
		w, told := New(c.parents, c.homes, c.room)
		if told != c.want || (w == nil) != (told != api.OK) {
			t.Errorf("%d is told %d", i, told)
		}
	}
	w := made(t, 1000)
	for n := range 4 {
		if !w.Up(n) || w.State(n).Life != 1 || w.Busy(n) != 0 {
			t.Errorf("the broker %d", n)
		}
	}
	for c := range 3 {
		if w.Cursor(c) != 0 || len(w.Got(c)) != 0 {
			t.Errorf("the client %d", c)
		}
	}
}

// P21.2: Tick, Crash and Restart.
func TestCrash(t *testing.T) {
	w := made(t, 5000)
	for _, n := range []int{-1, 4, math.MinInt, math.MaxInt} {
		if w.Tick(n) != api.ErrArg || w.Crash(n, 0) != api.ErrArg || w.Restart(n) != api.ErrArg || w.Up(n) {
			t.Errorf("the broker %d", n)
		}
	}
	if w.Restart(1) != api.ErrDown || w.Tick(1) != api.OK || w.net.Long(1, 0) != 1 || w.net.Long(1, 3) != 1 {
		t.Error("one that is up")
	}
	if w.Crash(1, 0) != api.OK || w.Up(1) || w.Tick(1) != api.ErrDown || w.Crash(1, 0) != api.ErrDown {
		t.Error("one that is down")
	}
	if w.net.Long(1, 0) != 1 {
		t.Error("a crash empties links")
	}
	if w.Restart(1) != api.OK || !w.Up(1) || w.State(1).Life != 2 || w.State(0).Life != 1 {
		t.Error("one that comes up")
	}
	for range 20 {
		if w.Tick(2) != api.OK {
			t.Error("a message that finds no room")
		}
	}
	if w.net.Long(2, 0) != api.MaxQueue {
		t.Errorf("%d messages", w.net.Long(2, 0))
	}
	// Its log has no room for another life.
	small := pair(t, 11)
	small.Crash(1, 0)
	small.disks[1], _ = disk.New(5)
	if small.Restart(1) != api.ErrFull || small.Up(1) {
		t.Error("a disk that is full")
	}
}

// P21.2: what a crash keeps of a disk.
func TestCrashKeeps(t *testing.T) {
	w := pair(t, 5000)
	long := len(w.disks[1].Read())
	w.disks[1].Append([]byte("abcde"))
	w.Crash(1, 3)
	if l := len(w.disks[1].Read()); l != long+3 {
		t.Errorf("%d bytes", l-long)
	}
}

// P21.3: Deliver, Drop, Twice and Turn.
func TestDeliver(t *testing.T) {
	w := made(t, 5000)
	if w.Deliver(0, 3) != api.ErrLink || w.Deliver(-1, 0) != api.ErrLink || w.Deliver(1, 0) != api.ErrQueue || w.Drop(0, 3) != api.ErrLink || w.Twice(0, 1) != api.ErrQueue || w.Turn(0, 9) != api.ErrLink {
		t.Error("no link, or no message")
	}
	id, _ := w.Sub(1, 4, is("p"))
	w.Tick(2)
	if w.Twice(2, 0) != api.OK || w.net.Long(2, 0) != 2 || w.Drop(2, 0) != api.OK || w.Turn(2, 0) != api.OK {
		t.Error("what the net does")
	}
	if w.Deliver(2, 0) != api.OK || len(w.State(0).List) != 1 || w.net.Long(2, 0) != 0 {
		t.Error("a message that comes")
	}
	w.Tick(0)
	w.Crash(1, 0)
	if w.Deliver(0, 1) != api.ErrDown || w.Deliver(0, 1) != api.ErrQueue {
		t.Error("one that comes to nobody")
	}
	if w.Deliver(0, 2) != api.OK {
		t.Error("a command")
	}
	if s, told := w.Status(1, id); s != api.SListed || told != api.OK {
		t.Errorf("%d, %d", s, told)
	}
	w.net.Send(3, 1, []byte{1})
	w.net.Send(0, 2, []byte{1})
	m, _ := wire.Encode(api.Message{Kind: api.MReport})
	w.net.Send(0, 2, m)
	if w.Deliver(0, 2) != api.ErrWire || w.Deliver(0, 2) != api.ErrFrom {
		t.Error("what the broker tells")
	}
}

// slowRound is a round as the document tells it.
func slowRound(w *World, brokers int) {
	var turns []int
	for n := brokers - 1; n >= 0; n-- {
		turns = append(turns, n)
	}
	for n := range brokers {
		turns = append(turns, n)
	}
	for _, n := range turns {
		if w.Up(n) {
			w.Tick(n)
			for to := range brokers {
				for to != n && w.net.Long(n, to) > 0 {
					w.Deliver(n, to)
				}
			}
		}
	}
}

// P21.3: a round.
func TestRound(t *testing.T) {
	a, b := made(t, 9000), made(t, 9000)
	for step := range 40 {
		for _, w := range []*World{a, b} {
			switch step % 7 {
			case 0:
				w.Sub(step%3, uint64(step), is("p"))
			case 1, 4:
				if id, told := w.Begin(step % 3); told == api.OK {
					w.Publish(step%3, id, p(1))
					w.Commit(step%3, id)
				}
			case 2:
				w.Crash(step%4, 0)
			case 5:
				w.Restart((step - 3) % 4)
			}
			w.Tick(3)
		}
		a.Round()
		slowRound(b, 4)
		for n := range 4 {
			if !reflect.DeepEqual(a.State(n), b.State(n)) || a.Busy(n) != b.Busy(n) {
				t.Fatalf("step %d: the broker %d is %v, not %v", step, n, a.State(n), b.State(n))
			}
		}
	}
	if len(a.State(0).List) < 5 {
		t.Errorf("only %d entries", len(a.State(0).List))
	}
}

// P21.3: in a round each broker sends twice, the root, too.
func TestRoundTwice(t *testing.T) {
	w, _ := New([]int{-1}, []int{0}, 5000)
	for range api.MaxOpen {
		commits(t, w, 0, p(1))
	}
	w.Round()
	if len(w.State(0).List) != 2*api.MaxAsks || w.Busy(0) != 0 {
		t.Errorf("%d entries", len(w.State(0).List))
	}
}

// P21.4: who may call what.
func TestClientErrors(t *testing.T) {
	w := made(t, 5000)
	id, _ := w.Begin(0)
	other := api.ID{Broker: 1, Life: 1, Serial: 1}
	ask := func(c int, id api.ID) []api.Errno {
		_, t1 := w.Begin(c)
		_, t2 := w.Sub(c, 1, api.Filter{{}})
		_, t3 := w.Unsub(c, 1)
		_, t4 := w.Poll(c)
		s, t5 := w.Status(c, id)
		if t5 != api.OK && s != 0 {
			t.Errorf("a Status of %d beside %d", s, t5)
		}
		return []api.Errno{t1, t2, t3, t4, t5, w.Publish(c, id, nil), w.Commit(c, id), w.Abort(c, id)}
	}
	for _, c := range []int{-1, 3, math.MinInt, math.MaxInt} {
		if l := ask(c, id); !slices.Equal(l, slices.Repeat([]api.Errno{api.ErrArg}, 8)) {
			t.Errorf("the client %d: %v", c, l)
		}
	}
	a, e := api.ErrArg, api.ErrEntry
	if l := ask(0, other); !slices.Equal(l, []api.Errno{0, e, 0, 0, a, a, a, a}) {
		t.Errorf("an ID of another home: %v", l)
	}
	if l := ask(0, id); !slices.Equal(l, []api.Errno{0, e, 0, 0, 0, api.ErrEvent, 0, api.ErrTxn}) {
		t.Errorf("%v", l)
	}
	w.Crash(3, 0)
	if l := ask(0, other); !slices.Equal(l, slices.Repeat([]api.Errno{api.ErrDown}, 8)) {
		t.Errorf("its home is down: %v", l)
	}
}

// P21.4, P21.5: Poll, Cursor and Got.
func TestPoll(t *testing.T) {
	w := pair(t, 9000)
	w.Sub(0, 1, is("p"))
	commits(t, w, 0, p(5))
	rounds(w, 3)
	commits(t, w, 1, p(6), p(7))
	commits(t, w, 1, api.Event{{Name: "q", Value: value.Int(1)}})
	rounds(w, 3)
	for i, c := range []struct {
		batch []api.Event
		at    int
	}{{[]api.Event{p(5)}, 2}, {[]api.Event{p(6), p(7)}, 3}, {nil, 4}, {nil, 4}} {
		batch, told := w.Poll(0)
		if told != api.OK || !reflect.DeepEqual(batch, c.batch) || w.Cursor(0) != c.at {
			t.Errorf("%d: %v, %d, at %d", i, batch, told, w.Cursor(0))
		}
		if len(batch) > 0 {
			batch[0][0].Name = "z"
		}
	}
	want := [][]api.Event{{p(5)}, {p(6), p(7)}}
	got := w.Got(0)
	if !reflect.DeepEqual(got, want) {
		t.Errorf("%v", got)
	}
	got[0][0][0].Name = "z"
	if !reflect.DeepEqual(w.Got(0), want) {
		t.Errorf("now %v", w.Got(0))
	}
	w.Crash(1, 0)
	if _, told := w.Poll(0); told != api.ErrDown || w.Cursor(0) != 4 {
		t.Errorf("its home is down: %d, %d", told, w.Cursor(0))
	}
	w.Restart(1)
	if batch, told := w.Poll(0); told != api.OK || len(batch) != 0 || w.Cursor(0) != 4 {
		t.Errorf("up again: %v, %d", batch, told)
	}
	for _, c := range []int{-1, 2, math.MaxInt} {
		if w.Cursor(c) != 0 || len(w.Got(c)) != 0 {
			t.Errorf("the client %d", c)
		}
	}
}

// P21.5: what is known of a broker that is up, or down.
func TestState(t *testing.T) {
	w := pair(t, 9000)
	w.Sub(0, 1, is("p"))
	w.Begin(0)
	commits(t, w, 0, p(5))
	if w.Busy(1) != 2 || w.Busy(0) != 0 {
		t.Errorf("asked for: %d, %d", w.Busy(1), w.Busy(0))
	}
	w.Tick(1)
	w.Deliver(1, 0)
	if w.Busy(0) != 1 {
		t.Errorf("waiting: %d", w.Busy(0))
	}
	w.Tick(0)
	w.Deliver(0, 1)
	if w.Busy(1) != 2 || len(w.State(1).Promises) != 1 || len(w.State(1).List) != 1 {
		t.Errorf("promised: %d", w.Busy(1))
	}
	was := w.State(1)
	w.Crash(1, 0)
	if w.Busy(1) != 1 || !reflect.DeepEqual(w.State(1), was) {
		t.Errorf("down: %d, %v", w.Busy(1), w.State(1))
	}
	w.disks[1].Append([]byte("junk"))
	long := len(w.disks[1].Read())
	if !reflect.DeepEqual(w.State(1), was) || len(w.disks[1].Read()) != long {
		t.Error("to look at it changes it")
	}
	w.disks[1].Swap([]byte{0, 1, 0x99, 0, 0, 0, 1})
	if s := w.State(1); !reflect.DeepEqual(s, api.State{}) || w.Busy(1) != 0 {
		t.Errorf("junk: %v", s)
	}
	for _, n := range []int{-1, 2, math.MinInt, math.MaxInt} {
		if !reflect.DeepEqual(w.State(n), api.State{}) || w.Busy(n) != 0 || w.Up(n) {
			t.Errorf("the broker %d", n)
		}
	}
}

// The document's example.
func TestExample(t *testing.T) {
	w, _ := New([]int{-1, 0}, []int{1}, 10000)
	w.Sub(0, 1, is("p"))
	commits(t, w, 0, p(5))
	rounds(w, 3)
	if batch, told := w.Poll(0); told != api.OK || !reflect.DeepEqual(batch, []api.Event{p(5)}) {
		t.Errorf("%v, %d", batch, told)
	}
	a := w.Crash(1, 0)
	_, b := w.Begin(0)
	c := w.Restart(1)
	batch, d := w.Poll(0)
	if a != api.OK || b != api.ErrDown || c != api.OK || d != api.OK || len(batch) != 0 {
		t.Error(a, b, c, d, batch)
	}
}

// R4: a world is its own.
func TestOwnMemory(t *testing.T) {
	parents, homes := []int{-1, 0, 1}, []int{2, 1}
	w, _ := New(parents, homes, 5000)
	clear(parents)
	clear(homes)
	f, e := is("p"), p(1)
	w.Sub(0, 1, f)
	id, _ := w.Begin(0)
	w.Publish(0, id, e)
	f[0].Name, e[0].Name = "z", "z"
	w.Commit(0, id)
	w.Crash(1, 0)
	w.Restart(1)
	rounds(w, 4)
	w.State(2).List[0].Filter[0].Name = "z"
	if batch, _ := w.Poll(0); !reflect.DeepEqual(batch, []api.Event{p(1)}) {
		t.Errorf("%v", batch)
	}
}

// R1: no world, and one that New did not make.
func TestNil(t *testing.T) {
	var no *World
	for _, w := range []*World{no, {}} {
		w.Round()
		_, t1 := w.Begin(0)
		_, t2 := w.Sub(0, 1, nil)
		_, t3 := w.Unsub(0, 1)
		_, t4 := w.Status(0, api.ID{})
		_, t5 := w.Poll(0)
		for i, told := range []api.Errno{t1, t2, t3, t4, t5, w.Tick(0), w.Crash(0, 1), w.Restart(0), w.Deliver(0, 1), w.Drop(0, 1), w.Twice(0, 1), w.Turn(0, 1), w.Publish(0, api.ID{}, nil), w.Commit(0, api.ID{}), w.Abort(0, api.ID{})} {
			if told != api.ErrArg {
				t.Errorf("%v: %d is told %d", w, i, told)
			}
		}
		if w.Cursor(0) != 0 || len(w.Got(0)) != 0 || w.Busy(0) != 0 || w.Up(0) || !reflect.DeepEqual(w.State(0), api.State{}) {
			t.Errorf("%v has something", w)
		}
	}
}
