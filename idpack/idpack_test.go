package idpack

import (
	"bytes"
	"math"
	"testing"

	"postilion/api"
	"postilion/pack"
)

// P11.2, P13.2: an ID is its three numbers.
func TestID(t *testing.T) {
	for _, id := range []api.ID{{}, {Broker: 15, Life: 2, Serial: 300}, {Broker: 1, Life: math.MaxUint64, Serial: math.MaxUint64}} {
		b := Lay([]byte{7}, id)
		want := pack.Number(pack.Number(pack.Number([]byte{7}, uint64(id.Broker)), id.Life), id.Serial)
		r := pack.New(b[1:])
		if got := Read(r); !bytes.Equal(b, want) || got != id || !r.Done() {
			t.Errorf("%v is %v, and %v again", id, b, got)
		}
	}
}

// Numbers that are too great are no small ones of another meaning.
func TestSmall(t *testing.T) {
	for n, want := range map[uint64]int{0: 0, 3: 3, math.MaxInt32: math.MaxInt32, 1 << 31: -1, 1<<32 + 1: -1, 1<<63 + 1: -1, math.MaxUint64: -1} {
		if got := Small(pack.New(pack.Number(nil, n))); got != want {
			t.Errorf("%d is %d", n, got)
		}
	}
}
