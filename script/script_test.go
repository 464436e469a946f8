package script

import (
	"math"
	"math/rand"
	"reflect"
	"testing"

	"postilion/api"
	"postilion/overlay"
	"postilion/value"
)

// parents1 and homes1 are those of the document's examples of the whole.
func parents1() []int { return []int{-1, 0, 0, 1} }
func homes1() []int   { return []int{3, 2, 0} }

// price is an event; over is a filter.
func price(n int64) api.Event { return api.Event{{Name: "price", Value: value.Int(n)}} }

func over(n int64) api.Filter {
	return api.Filter{{Name: "price", Op: api.TGt, Value: value.Int(n)}}
}

// step is an op, and what it must be told; without want it may be told anything without an error.
type step struct {
	op   api.Op
	want *api.Answer
}

// run plays steps, and asks their answers.
func run(t *testing.T, parents, homes []int, room int, steps []step) []api.Answer {
	t.Helper()
	var ops []api.Op
	for _, s := range steps {
		ops = append(ops, s.op)
	}
	answers, told := Run(parents, homes, room, ops)
	if told != api.OK || len(answers) != len(steps) {
		t.Fatalf("%d answers, %d", len(answers), told)
	}
	for i, s := range steps {
		if s.want != nil && !reflect.DeepEqual(answers[i], *s.want) || s.want == nil && answers[i].Err != api.OK {
			t.Errorf("op %d, %v: %v", i, s.op, answers[i])
		}
	}
	return answers
}

// fine and tell are what an op may be told.
func fine() *api.Answer               { return &api.Answer{} }
func tell(told api.Errno) *api.Answer { return &api.Answer{Err: told} }
func status(n int) *api.Answer        { return &api.Answer{Status: n} }
func began(id api.ID) *api.Answer     { return &api.Answer{ID: id} }
func look(long int, up bool) *api.Answer {
	return &api.Answer{Long: long, Up: up}
}

func polled(at int, l ...api.Event) *api.Answer { return &api.Answer{Batch: l, Long: at} }

// The document's ten examples of the whole: ops of one script.
func TestTen(t *testing.T) {
	round := step{api.Op{Kind: api.ORound}, fine()}
	id := func(broker int, life, serial uint64) api.ID {
		return api.ID{Broker: broker, Life: life, Serial: serial}
	}
	run(t, parents1(), homes1(), 20000, []step{
		// 1
		{api.Op{Kind: api.OSub, A: 0, B: 1, Filter: over(10)}, began(id(3, 1, 1))}, round,
		{api.Op{Kind: api.OStatus, A: 0, N: 0}, status(api.SListed)},
		// 2
		{api.Op{Kind: api.OBegin, A: 1}, began(id(2, 1, 1))},
		{api.Op{Kind: api.OPublish, A: 1, N: 1, Event: price(15)}, fine()},
		{api.Op{Kind: api.OPublish, A: 1, N: 1, Event: price(5)}, fine()},
		{api.Op{Kind: api.OPublish, A: 1, N: 1, Event: price(20)}, fine()},
		{api.Op{Kind: api.OPoll, A: 0}, polled(1)},
		// 3
		{api.Op{Kind: api.OCommit, A: 1, N: 1}, fine()},
		{api.Op{Kind: api.OPublish, A: 1, N: 1, Event: price(15)}, tell(api.ErrTxn)}, round, round,
		{api.Op{Kind: api.OPoll, A: 0}, polled(2, price(15), price(20))},
		// 4
		{api.Op{Kind: api.OLook, A: 0}, look(2, true)},
		{api.Op{Kind: api.OLook, A: 3}, look(2, true)},
		// 5
		{api.Op{Kind: api.OBegin, A: 1}, began(id(2, 1, 2))},
		{api.Op{Kind: api.OPublish, A: 1, N: 2, Event: price(99)}, fine()},
		{api.Op{Kind: api.OAbort, A: 1, N: 2}, fine()},
		{api.Op{Kind: api.OCommit, A: 1, N: 2}, tell(api.ErrTxn)},
		// 6
		{api.Op{Kind: api.OBegin, A: 2}, began(id(0, 1, 1))},
		{api.Op{Kind: api.OPublish, A: 2, N: 3, Event: price(50)}, fine()},
		{api.Op{Kind: api.OCommit, A: 2, N: 3}, fine()},
		{api.Op{Kind: api.OCrash, A: 3}, fine()}, round, round,
		{api.Op{Kind: api.OStatus, A: 2, N: 3}, status(api.SAsked)},
		{api.Op{Kind: api.OPoll, A: 0}, &api.Answer{Err: api.ErrDown, Long: 2}},
		// 7
		{api.Op{Kind: api.ORestart, A: 3}, fine()}, round, round, round,
		{api.Op{Kind: api.OStatus, A: 2, N: 3}, status(api.SListed)},
		{api.Op{Kind: api.OPoll, A: 0}, polled(3, price(50))},
		// 8
		{api.Op{Kind: api.OCrash, A: 0}, fine()},
		{api.Op{Kind: api.OLook, A: 0}, look(3, false)},
		{api.Op{Kind: api.ORestart, A: 0}, fine()},
		{api.Op{Kind: api.OLook, A: 0}, look(3, true)},
		// 9
		{api.Op{Kind: api.OUnsub, A: 0, B: 1}, began(id(3, 2, 1))}, round,
		{api.Op{Kind: api.OBegin, A: 1}, began(id(2, 1, 3))},
		{api.Op{Kind: api.OPublish, A: 1, N: 5, Event: price(60)}, fine()},
		{api.Op{Kind: api.OCommit, A: 1, N: 5}, fine()}, round, round, round,
		{api.Op{Kind: api.OPoll, A: 0}, polled(5)},
		// 10
		{api.Op{Kind: api.OTick, A: 7}, tell(api.ErrArg)},
		{api.Op{Kind: api.OBegin, A: 9}, tell(api.ErrArg)},
	})
}

// The chapter's examples.
func TestExamples(t *testing.T) {
	sub := api.Op{Kind: api.OSub, A: 0, B: 1, Filter: api.Filter{{Name: "p", Op: api.TIs}}}
	e := api.Event{{Name: "p", Value: value.Int(5)}}
	round := step{api.Op{Kind: api.ORound}, fine()}
	answers := run(t, []int{-1, 0}, []int{1}, 10000, []step{
		{sub, nil}, {api.Op{Kind: api.OBegin}, nil}, {api.Op{Kind: api.OPublish, N: 1, Event: e}, fine()}, {api.Op{Kind: api.OCommit, N: 1}, fine()},
		round, round, round, {api.Op{Kind: api.OPoll}, polled(2, e)},
		{api.Op{Kind: api.OStatus, N: 1}, status(3)}, {api.Op{Kind: api.OLook, A: 1}, look(2, true)}, {api.Op{Kind: api.OCommit, N: 7}, tell(api.ErrArg)},
	})
	if answers[0].ID == (api.ID{}) || answers[1].ID == answers[0].ID {
		t.Errorf("%v, %v", answers[0].ID, answers[1].ID)
	}
}

// P22.1: what Run refuses.
func TestRunErrors(t *testing.T) {
	for i, c := range []struct {
		parents, homes []int
		room, ops      int
		want           api.Errno
	}{
		{nil, nil, -1, api.MaxOps + 1, api.ErrArg},
		{nil, nil, -1, api.MaxOps, api.ErrTree},
		{[]int{-1}, nil, 100, 1, api.ErrArg},
		{[]int{-1}, []int{0}, -1, 1, api.ErrArg},
		{[]int{-1}, []int{0}, 2, 1, api.ErrFull},
		{[]int{-1}, []int{0}, 100, api.MaxOps, api.OK},
		{[]int{-1}, []int{0}, 100, 0, api.OK},
	} {
		answers, told := Run(c.parents, c.homes, c.room, make([]api.Op, c.ops))
		if told != c.want || told != api.OK && len(answers) != 0 || told == api.OK && len(answers) != c.ops {
			t.Errorf("%d: %d answers, %d", i, len(answers), told)
		}
	}
}

// P22.1: Kinds that are none, numbers below 0, and IDs that were not told.
func TestEdges(t *testing.T) {
	all := api.Op{A: 1, B: 2, N: 0, Event: price(1), Filter: over(1)}
	kind := func(n int) api.Op {
		op := all
		op.Kind = n
		return op
	}
	run(t, []int{-1, 0}, []int{0, 1}, 10000, []step{
		{kind(0), tell(api.ErrArg)}, {kind(-1), tell(api.ErrArg)}, {kind(18), tell(api.ErrArg)}, {kind(math.MinInt), tell(api.ErrArg)}, {kind(math.MaxInt), tell(api.ErrArg)},
		{kind(api.OStatus), tell(api.ErrArg)}, {kind(api.OPublish), tell(api.ErrArg)}, {kind(api.OCommit), tell(api.ErrArg)}, {kind(api.OAbort), tell(api.ErrArg)},
		{api.Op{Kind: api.OSub, A: 1, B: -1}, tell(api.ErrArg)},
		{api.Op{Kind: api.OUnsub, A: 1, B: math.MinInt}, tell(api.ErrArg)},
		{api.Op{Kind: api.OSub, A: 0, B: 3, Filter: api.Filter{{}}}, tell(api.ErrEntry)},
		{api.Op{Kind: api.OBegin, A: 1, B: -1}, began(api.ID{Broker: 1, Life: 1, Serial: 1})},
		{api.Op{Kind: api.OUnsub, A: 0, B: math.MaxInt}, began(api.ID{Broker: 0, Life: 1, Serial: 1})},
		{api.Op{Kind: api.OSub, A: 0, B: 0}, began(api.ID{Broker: 0, Life: 1, Serial: 2})},
		// The first three are empty IDs: of the broker 0, but of no transaction.
		{api.Op{Kind: api.OStatus, A: 0, N: 2}, status(api.SUnknown)},
		{api.Op{Kind: api.OStatus, A: 1, N: 2}, tell(api.ErrArg)},
		{api.Op{Kind: api.OCommit, A: 0, N: 0}, tell(api.ErrTxn)},
		{api.Op{Kind: api.OStatus, A: 1, N: 3}, status(api.SOpen)},
		{api.Op{Kind: api.OPublish, A: 1, N: 3}, tell(api.ErrEvent)},
		{api.Op{Kind: api.OCommit, A: 1, N: 3}, fine()},
		{api.Op{Kind: api.OStatus, A: 1, N: 3}, status(api.SAsked)},
		{api.Op{Kind: api.OStatus, A: 0, N: 4}, status(api.SAsked)},
		{api.Op{Kind: api.OStatus, A: 0, N: 6}, tell(api.ErrArg)},
		{api.Op{Kind: api.OStatus, A: 0, N: -1}, tell(api.ErrArg)},
		{api.Op{Kind: api.OAbort, A: 0, N: math.MaxInt}, tell(api.ErrArg)},
		{api.Op{Kind: api.OLook, A: 1}, &api.Answer{Busy: 1, Up: true}},
		{api.Op{Kind: api.OLook, A: 0}, &api.Answer{Busy: 2, Up: true}},
		{api.Op{Kind: api.OLook, A: 2}, fine()},
		{api.Op{Kind: api.OPoll, A: 2}, tell(api.ErrArg)},
		{api.Op{Kind: api.OPoll, A: -1}, tell(api.ErrArg)},
	})
}

// P22.1: brokers and the net.
func TestNet(t *testing.T) {
	run(t, []int{-1, 0, 0}, []int{1, 2}, 10000, []step{
		{api.Op{Kind: api.ODeliver, A: 1, B: 2}, tell(api.ErrLink)},
		{api.Op{Kind: api.ODeliver, A: 1, B: 0}, tell(api.ErrQueue)},
		{api.Op{Kind: api.OTick, A: 1}, fine()},
		{api.Op{Kind: api.OSub, A: 0, B: 1}, nil},
		{api.Op{Kind: api.OTick, A: 1}, fine()},
		{api.Op{Kind: api.OTurn, A: 1, B: 0}, fine()},
		{api.Op{Kind: api.OTwice, A: 1, B: 0}, fine()},
		{api.Op{Kind: api.ODrop, A: 1, B: 0}, fine()},
		{api.Op{Kind: api.ODeliver, A: 1, B: 0}, fine()},
		{api.Op{Kind: api.OLook, A: 0}, look(0, true)},
		{api.Op{Kind: api.ODeliver, A: 1, B: 0}, fine()},
		{api.Op{Kind: api.OLook, A: 0}, look(1, true)},
		{api.Op{Kind: api.ODrop, A: 1, B: 0}, tell(api.ErrQueue)},
		{api.Op{Kind: api.OTwice, A: 0, B: 1}, tell(api.ErrQueue)},
		{api.Op{Kind: api.OTurn, A: 3, B: 0}, tell(api.ErrLink)},
		{api.Op{Kind: api.ORestart, A: 1}, tell(api.ErrDown)},
		{api.Op{Kind: api.OCrash, A: 1, B: 5}, fine()},
		{api.Op{Kind: api.OCrash, A: 1, B: 5}, tell(api.ErrDown)},
		{api.Op{Kind: api.OTick, A: 1}, tell(api.ErrDown)},
		{api.Op{Kind: api.OTick, A: 0}, fine()},
		{api.Op{Kind: api.ODeliver, A: 0, B: 1}, tell(api.ErrDown)},
		{api.Op{Kind: api.ORestart, A: 1}, fine()},
		{api.Op{Kind: api.OCrash, A: 3}, tell(api.ErrArg)},
		{api.Op{Kind: api.ORestart, A: -1}, tell(api.ErrArg)},
		{api.Op{Kind: api.OBegin, A: 0}, began(api.ID{Broker: 1, Life: 2, Serial: 1})},
	})
}

// any1 is an op that chance makes.
func any1(r *rand.Rand) api.Op {
	return api.Op{Kind: r.Intn(19), A: r.Intn(5) - 1, B: r.Intn(5) - 1, N: r.Intn(12) - 1, Event: price(int64(r.Intn(20))), Filter: over(int64(r.Intn(20)))}
}

// apart plays an op with a world, as the document tells it.
func apart(w *overlay.World, ids *[]api.ID, op api.Op) api.Answer {
	var x api.Answer
	id := api.ID{}
	named := op.Kind == api.OPublish || op.Kind == api.OCommit || op.Kind == api.OAbort || op.Kind == api.OStatus
	if named {
		if op.N < 0 || op.N >= len(*ids) {
			return api.Answer{Err: api.ErrArg}
		}
		id = (*ids)[op.N]
	}
	switch op.Kind {
	case api.OTick:
		x.Err = w.Tick(op.A)
	case api.ODeliver:
		x.Err = w.Deliver(op.A, op.B)
	case api.ODrop:
		x.Err = w.Drop(op.A, op.B)
	case api.OTwice:
		x.Err = w.Twice(op.A, op.B)
	case api.OTurn:
		x.Err = w.Turn(op.A, op.B)
	case api.OCrash:
		x.Err = w.Crash(op.A, op.B)
	case api.ORestart:
		x.Err = w.Restart(op.A)
	case api.ORound:
		w.Round()
	case api.OBegin:
		x.ID, x.Err = w.Begin(op.A)
	case api.OSub, api.OUnsub:
		x.Err = api.ErrArg
		if op.B >= 0 && op.Kind == api.OSub {
			x.ID, x.Err = w.Sub(op.A, uint64(op.B), op.Filter)
		} else if op.B >= 0 {
			x.ID, x.Err = w.Unsub(op.A, uint64(op.B))
		}
	case api.OPublish:
		x.Err = w.Publish(op.A, id, op.Event)
	case api.OCommit:
		x.Err = w.Commit(op.A, id)
	case api.OAbort:
		x.Err = w.Abort(op.A, id)
	case api.OStatus:
		x.Status, x.Err = w.Status(op.A, id)
	case api.OPoll:
		x.Batch, x.Err = w.Poll(op.A)
		x.Long = w.Cursor(op.A)
	case api.OLook:
		x.Long, x.Busy, x.Up = len(w.State(op.A).List), w.Busy(op.A), w.Up(op.A)
	default:
		x.Err = api.ErrArg
	}
	if op.Kind == api.OBegin || op.Kind == api.OSub || op.Kind == api.OUnsub {
		*ids = append(*ids, x.ID)
	}
	return x
}

// P22.1, P22.2: an op is told what its world tells, whatever stands behind it.
func TestAny(t *testing.T) {
	for seed := range int64(60) {
		r := rand.New(rand.NewSource(seed))
		var ops []api.Op
		for range 120 {
			ops = append(ops, any1(r))
		}
		all, told := Run(parents1(), homes1(), 3000, ops)
		if told != api.OK {
			t.Fatal(told)
		}
		w, _ := overlay.New(parents1(), homes1(), 3000)
		var ids []api.ID
		for i, op := range ops {
			if want := apart(w, &ids, op); !reflect.DeepEqual(all[i], want) {
				t.Fatalf("op %d, %v: %v, not %v", i, op, all[i], want)
			}
		}
		cut := r.Intn(len(ops))
		first, _ := Run(parents1(), homes1(), 3000, ops[:cut])
		if len(first) != cut || cut > 0 && !reflect.DeepEqual(first, all[:cut]) {
			t.Fatalf("up to %d it is told otherwise", cut)
		}
	}
}

// R4: what is handed in is left alone, and answers share no memory with it.
func TestOwnMemory(t *testing.T) {
	ops := []api.Op{
		{Kind: api.OSub, B: 1, Filter: over(1)}, {Kind: api.OBegin}, {Kind: api.OPublish, N: 1, Event: price(5)}, {Kind: api.OCommit, N: 1}, {Kind: api.OTick}, {Kind: api.OPoll},
	}
	answers, _ := Run([]int{-1}, []int{0}, 10000, ops)
	batch := answers[5].Batch
	if !reflect.DeepEqual(batch, []api.Event{price(5)}) {
		t.Fatalf("%v", batch)
	}
	batch[0][0].Name = "z"
	if !reflect.DeepEqual(ops[2].Event, price(5)) || !reflect.DeepEqual(ops[0].Filter, over(1)) {
		t.Errorf("now %v", ops)
	}
}
