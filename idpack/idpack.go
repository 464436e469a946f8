// Package idpack packs IDs, and the small numbers that stand beside them.
package idpack

import (
	"math"

	"postilion/api"
	"postilion/pack"
)

// Lay packs an ID behind bytes.
func Lay(out []byte, id api.ID) []byte {
	return pack.Number(pack.Number(pack.Number(out, uint64(id.Broker)), id.Life), id.Serial)
}

// Read is the ID that a reader goes on with.
func Read(r *pack.Reader) api.ID {
	id := api.ID{Broker: Small(r)}
	id.Life = r.Number()
	id.Serial = r.Number()
	return id
}

// Small is a number that a reader goes on with; -1, that is none of anything, if it is too great for an int of any machine.
func Small(r *pack.Reader) int {
	n := r.Number()
	if n > math.MaxInt32 {
		return -1
	}
	return int(n)
}
