package entry

import (
	"postilion/api"
	"postilion/idpack"
	"postilion/pack"
)

// empty tells whether an entry has nothing.
func empty(x api.Entry) bool {
	return x.Kind == 0 && x.ID == api.ID{} && x.Client == 0 && x.Sub == 0 && len(x.Filter) == 0 && len(x.Events) == 0
}

// record tells whether a record may be.
func record(r api.Record) bool {
	switch r.Kind {
	case api.RPromise:
		if r.N != 0 {
			return false
		}
		fallthrough
	case api.REntry:
		return r.ID == api.ID{} && Check(r.Entry) == api.OK
	case api.RAbort, api.RForget:
		return r.N == 0 && broker(r.ID) && empty(r.Entry)
	case api.RLife:
		return r.ID == api.ID{} && empty(r.Entry)
	}
	return false
}

// Pack are a record's bytes.
func Pack(r api.Record) ([]byte, api.Errno) {
	if !record(r) {
		return nil, api.ErrEntry
	}
	out := pack.Number(pack.Number(nil, uint64(r.Kind)), r.N)
	switch r.Kind {
	case api.REntry, api.RPromise:
		b, told := Encode(r.Entry)
		return pack.Bytes(out, b), told
	case api.RAbort, api.RForget:
		return idpack.Lay(out, r.ID), api.OK
	}
	return out, api.OK
}

// Unpack is the record that bytes are.
func Unpack(b []byte) (api.Record, api.Errno) {
	from := pack.New(b)
	r := api.Record{Kind: idpack.Small(from)}
	r.N = from.Number()
	told := api.OK
	switch r.Kind {
	case api.REntry, api.RPromise:
		r.Entry, told = Decode(from.Bytes(len(b)))
	case api.RAbort, api.RForget:
		r.ID = idpack.Read(from)
	}
	if told != api.OK || !from.Done() || !record(r) {
		return api.Record{}, api.ErrEntry
	}
	return r, api.OK
}
