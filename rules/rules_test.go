// Package rules tests what holds in all layers.
package rules

import (
	"bytes"
	"math"
	"math/rand"
	"reflect"
	"testing"

	"postilion/api"
	"postilion/broker"
	"postilion/cover"
	"postilion/disk"
	"postilion/entry"
	"postilion/event"
	"postilion/filter"
	"postilion/fold"
	"postilion/frame"
	"postilion/index"
	"postilion/net"
	"postilion/norm"
	"postilion/order"
	"postilion/overlay"
	"postilion/pack"
	"postilion/script"
	"postilion/stage"
	"postilion/table"
	"postilion/tree"
	"postilion/value"
	"postilion/vote"
	"postilion/wal"
	"postilion/wire"
)

// maker makes what chance wants, of any type: small numbers most of the time, so that much of it may be.
type maker struct{ *rand.Rand }

// number is one, at times of the greatest or least.
func (m maker) number() int64 {
	switch m.Intn(12) {
	case 0:
		return []int64{math.MinInt64, math.MaxInt64, math.MinInt32, math.MaxInt32, 1 << 32, -1}[m.Intn(6)]
	case 1:
		return int64(m.Uint64())
	}
	return int64(m.Intn(9))
}

// fill lets a value be some of its type.
func (m maker) fill(v reflect.Value) {
	switch v.Kind() {
	case reflect.Int, reflect.Int64:
		v.SetInt(m.number())
	case reflect.Uint64:
		v.SetUint(uint64(m.number()))
	case reflect.Uint8:
		v.SetUint(uint64(m.Intn(256)))
	case reflect.Bool:
		v.SetBool(m.Intn(2) == 0)
	case reflect.String:
		v.SetString([]string{"", "p", "q", "ab", "abc", "P", "\xff", "0123456789abcdefg"}[m.Intn(8)])
	case reflect.Slice:
		l := reflect.MakeSlice(v.Type(), m.Intn(5), 8)
		for i := range l.Len() {
			m.fill(l.Index(i))
		}
		v.Set(l)
	case reflect.Struct:
		for i := range v.NumField() {
			if m.Intn(5) > 0 {
				m.fill(v.Field(i))
			}
		}
	}
}

// calls are all that take values alone.
func calls() []any {
	return []any{
		value.Check, value.Order, value.Begins, value.Int, value.Text, value.Bool,
		pack.Number, pack.Bytes, pack.Value, frame.Sum, frame.Wrap, frame.Scan,
		event.Name, event.Check, event.Find, event.Encode, event.Decode,
		filter.Check, filter.One, filter.Is, filter.Holds, filter.Matches, filter.Encode, filter.Decode,
		norm.Implies, norm.Order, norm.Norm, cover.Covers, cover.Reduce, cover.Any,
		entry.Less, entry.Check, entry.Encode, entry.Decode, entry.Pack, entry.Unpack,
		tree.Check, tree.Kids, tree.Up, tree.Depth, tree.Step, tree.Way,
		wire.Check, wire.Encode, wire.Decode, net.New, disk.New,
		table.Apply, table.Filters, table.Cut, table.Batch,
		fold.Step, fold.All, fold.Records, fold.Has, fold.Promised, fold.Aborted,
		stage.Begin, stage.Publish, stage.Commit, stage.Abort, stage.Ask, stage.Settle, stage.Asks, stage.Find,
		vote.Promise, vote.Tally, vote.Says, vote.Ends, order.Admit, order.Decide, order.Told, order.From,
		overlay.New, script.Run,
	}
}

// keeps are those calls that tell, beside an error or a false, more than zero values.
func keeps(name int) bool {
	f := reflect.ValueOf(calls()[name]).Pointer()
	for _, g := range []any{fold.Step, stage.Begin, stage.Publish, stage.Commit, stage.Abort, stage.Ask} {
		if reflect.ValueOf(g).Pointer() == f {
			return true
		}
	}
	return false
}

// empty tells whether a result is a zero value.
func empty(v reflect.Value) bool {
	return v.IsZero() || v.Kind() == reflect.Slice && v.Len() == 0
}

// refused tells whether a call's results are beside an error or a false.
func refused(out []reflect.Value) bool {
	last := out[len(out)-1]
	if len(out) < 2 {
		return false
	}
	told, is := last.Interface().(api.Errno)
	return is && told != api.OK || last.Kind() == reflect.Bool && !last.Bool()
}

// deep is a copy of a value, that shares nothing; of lists their spare room, too.
func deep(v reflect.Value) reflect.Value {
	c := reflect.New(v.Type()).Elem()
	c.Set(v)
	switch v.Kind() {
	case reflect.Slice:
		if v.IsNil() {
			return c
		}
		all := v.Slice(0, v.Cap())
		l := reflect.MakeSlice(v.Type(), v.Cap(), v.Cap())
		for i := range all.Len() {
			l.Index(i).Set(deep(all.Index(i)))
		}
		c.Set(l.Slice(0, v.Len()))
	case reflect.Struct:
		for i := range v.NumField() {
			c.Field(i).Set(deep(v.Field(i)))
		}
	}
	return c
}

// spoil changes all that a value holds, the spare room of its lists, too.
func spoil(v reflect.Value) {
	switch v.Kind() {
	case reflect.Slice:
		all := v.Slice(0, v.Cap())
		for i := range all.Len() {
			spoil(all.Index(i))
			all.Index(i).SetZero()
		}
	case reflect.Struct:
		for i := range v.NumField() {
			spoil(v.Field(i))
		}
	}
}

// R1, R2, R4, R5: of anything each call ends, without a panic, answers the same again, nothing beside an error, and shares nothing.
func TestAnything(t *testing.T) {
	m := maker{rand.New(rand.NewSource(1))}
	for i, f := range calls() {
		call := reflect.ValueOf(f)
		for range 400 {
			var in, keep []reflect.Value
			for j := range call.Type().NumIn() {
				v := reflect.New(call.Type().In(j)).Elem()
				m.fill(v)
				in, keep = append(in, v), append(keep, deep(v))
			}
			out, again := call.Call(in), call.Call(keep)
			for j := range out {
				if out[j].Kind() == reflect.Pointer {
					continue
				}
				if !reflect.DeepEqual(out[j].Interface(), again[j].Interface()) {
					t.Fatalf("call %d of %v: %v, then %v", i, in, out[j], again[j])
				}
				if refused(out) && j < len(out)-1 && !keeps(i) && !empty(out[j]) {
					t.Fatalf("call %d of %v: %v beside %v", i, in, out[j], out[len(out)-1])
				}
			}
			for j := range out {
				spoil(out[j])
				for k := range out {
					if k > j && out[k].Kind() != reflect.Pointer && !reflect.DeepEqual(out[k].Interface(), again[k].Interface()) {
						t.Fatalf("call %d of %v: two of its answers share memory", i, in)
					}
				}
			}
			for j := range in {
				whole := func(v reflect.Value) any {
					if v.Kind() == reflect.Slice {
						return v.Slice(0, v.Cap()).Interface()
					}
					return v.Interface()
				}
				if !reflect.DeepEqual(whole(in[j]), whole(keep[j])) {
					t.Fatalf("call %d changes, or shares, %v: now %v", i, keep[j], in[j])
				}
			}
		}
	}
}

// R1: of anything each method ends, without a panic, of objects that were made, or not.
func TestObjects(t *testing.T) {
	m := maker{rand.New(rand.NewSource(2))}
	for range 60 {
		d, _ := disk.New(3000)
		d.Append([]byte{0, 1, 2})
		l, _ := wal.Open(d)
		n, _ := net.New([]int{-1, 0, 0, 1})
		b, _ := broker.Open(1, []int{-1, 0, 0, 1}, []int{1, 2, 3}, d)
		w, _ := overlay.New([]int{-1, 0, 0, 1}, []int{1, 2, 3}, 3000)
		for _, o := range []any{
			d, &disk.Disk{}, (*disk.Disk)(nil), l, &wal.Log{}, (*wal.Log)(nil), n, &net.Net{}, (*net.Net)(nil),
			pack.New([]byte{1, 5, 0, 1, 1, 3}), &pack.Reader{}, (*pack.Reader)(nil), index.New(), &index.Index{}, (*index.Index)(nil),
			b, &broker.Broker{}, (*broker.Broker)(nil), w, &overlay.World{}, (*overlay.World)(nil),
		} {
			object := reflect.ValueOf(o)
			for range 40 {
				f := object.Method(m.Intn(object.NumMethod()))
				var in []reflect.Value
				for j := range f.Type().NumIn() {
					v := reflect.New(f.Type().In(j)).Elem()
					m.fill(v)
					in = append(in, v)
				}
				if f.Type().IsVariadic() {
					f.CallSlice(in)
				} else {
					f.Call(in)
				}
			}
		}
	}
}

// R1: a message of bytes that chance makes, or changes, does no harm to a broker.
func TestMessages(t *testing.T) {
	m := maker{rand.New(rand.NewSource(3))}
	d, _ := disk.New(100000)
	b, _ := broker.Open(1, []int{-1, 0, 0, 1}, []int{1, 2, 3}, d)
	for range 5000 {
		var said api.Message
		m.fill(reflect.ValueOf(&said).Elem())
		for _, kind := range []int{api.MReport, api.MCommand} {
			said.Kind = kind
			bytes, told := wire.Encode(said)
			if told != api.OK {
				said = api.Message{Kind: kind, Have: said.Have, Aborts: nil}
				bytes, _ = wire.Encode(said)
			}
			b.Handle(m.Intn(5)-1, bytes)
			bytes[m.Intn(len(bytes))] ^= 1 << m.Intn(8)
			b.Handle(m.Intn(5)-1, bytes)
		}
		b.Tick()
	}
}

// P2.3, P4.4, P5.4, P11.4, P13.3: bytes that are decoded are what encodes again so.
func TestOneWay(t *testing.T) {
	m := maker{rand.New(rand.NewSource(4))}
	good := 0
	again := func(b, c []byte, told api.Errno) {
		t.Helper()
		good++
		if told != api.OK || !bytes.Equal(b, c) {
			t.Fatalf("%v is encoded as %v, %d", b, c, told)
		}
	}
	for range 20000 {
		e := api.Event{{Name: "p", Value: value.Int(m.number())}, {Name: "q", Value: value.Text("ab")}}
		f := api.Filter{{Name: "p", Op: 1 + m.Intn(6), Value: value.Int(m.number())}, {Name: "q", Op: api.TIs}}
		x := api.Entry{Kind: api.EPublish, ID: api.ID{Broker: m.Intn(16), Life: uint64(m.number())}, Events: []api.Event{e, e}}
		y := api.Entry{Kind: api.ESub, Filter: f}
		eb, _ := event.Encode(e)
		fb, _ := filter.Encode(f)
		xb, _ := entry.Encode(x)
		rb, _ := entry.Pack(api.Record{Kind: api.REntry, N: uint64(m.number()), Entry: y})
		mb, _ := wire.Encode(api.Message{Kind: api.MReport, Votes: []api.Vote{{Yes: true}}, Asks: []api.Entry{x, y}})
		for _, b := range [][]byte{eb, fb, xb, rb, mb} {
			for range m.Intn(3) {
				b[m.Intn(len(b))] = byte(m.Intn(9))
			}
		}
		if e, told := event.Decode(eb); told == api.OK {
			c, told := event.Encode(e)
			again(eb, c, told)
		}
		if f, told := filter.Decode(fb); told == api.OK {
			c, told := filter.Encode(f)
			again(fb, c, told)
		}
		if x, told := entry.Decode(xb); told == api.OK {
			c, told := entry.Encode(x)
			again(xb, c, told)
		}
		if r, told := entry.Unpack(rb); told == api.OK {
			c, told := entry.Pack(r)
			again(rb, c, told)
		}
		if m, told := wire.Decode(mb); told == api.OK {
			c, told := wire.Encode(m)
			again(mb, c, told)
		}
	}
	if good < 30000 {
		t.Errorf("only %d were decoded", good)
	}
}
