package own

import (
	"reflect"
	"testing"

	"postilion/api"
	"postilion/value"
)

// R4: a copy is the same, and shares nothing.
func TestEntries(t *testing.T) {
	make1 := func() []api.Entry {
		return []api.Entry{
			{Kind: api.ESub, Client: 3, Sub: 4, Filter: api.Filter{{Name: "p", Op: api.TIs}}},
			{Kind: api.EPublish, ID: api.ID{Broker: 1, Life: 2, Serial: 3}, Events: []api.Event{{{Name: "a", Value: value.Int(1)}}, {{Name: "b", Value: value.Text("x")}}}},
		}
	}
	l := make1()
	c := Entries(l)
	if !reflect.DeepEqual(c, l) {
		t.Fatalf("%v", c)
	}
	c[0].Filter[0].Name = "q"
	c[1].Events[0][0].Name = "q"
	c[1].Events[1] = nil
	c[1].ID.Broker = 9
	if !reflect.DeepEqual(l, make1()) {
		t.Errorf("now %v", l)
	}
}

// R4: spare room is not shared either.
func TestSpareRoom(t *testing.T) {
	l := []int{1, 2, 3}
	_ = append(Flat(l[:1]), 9)
	_ = append(Each(l[:1], func(n int) int { return n }), 9)
	_ = append(Flat(l[:0]), 9)
	if l[0] != 1 || l[1] != 2 {
		t.Errorf("now %v", l)
	}
}

// R4: a state's copy is the same, and shares nothing.
func TestState(t *testing.T) {
	make1 := func() api.State {
		x := api.Entry{Kind: api.EPublish, Events: []api.Event{{{Name: "a", Value: value.Int(1)}}}}
		return api.State{Life: 3, List: []api.Entry{x}, Promises: Entries([]api.Entry{x}), Aborted: []api.ID{{Broker: 1}}}
	}
	s := make1()
	c := State(s)
	txn := Txn(api.Txn{Entry: s.List[0], Asked: true})
	if !reflect.DeepEqual(c, s) || !txn.Asked || !reflect.DeepEqual(txn.Entry, s.List[0]) {
		t.Fatalf("%v, %v", c, txn)
	}
	txn.Entry.Events[0][0].Name = "q"
	c.List[0].Events[0][0].Name = "q"
	c.Promises[0].Events[0][0].Name = "q"
	c.Aborted[0].Broker = 9
	if !reflect.DeepEqual(s, make1()) {
		t.Errorf("now %v", s)
	}
}
