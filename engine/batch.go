package engine

import (
	"regatta/api"
	"regatta/codec"
)

const (
	maxKey   = 4 * api.MaxKey    // bytes of a key that is put or deleted
	maxValue = api.MaxRecord / 4 // bytes of a value
)

// refused: may no batch have this Op?
func refused(o api.Op) bool {
	if o.Kind < api.OpPut || o.Kind > api.OpWipe || len(o.Value) > maxValue {
		return true
	}
	// The ends of a wipe are no keys of a pair.
	return o.Kind != api.OpWipe && (len(o.Key) == 0 || len(o.Key) > maxKey)
}

// recordOf is the record of a batch in the log: a row of a field for each Op.
func recordOf(batch []api.Op) []byte {
	fields := make([][]byte, len(batch))
	for i, o := range batch {
		fields[i] = fieldOf(o)
	}
	return codec.Row(fields...)
}

// takeBatch reads what recordOf made.
func takeBatch(record []byte) ([]api.Op, bool) {
	fields, code := codec.TakeRow(record)
	if code != api.OK {
		return nil, false
	}
	batch := make([]api.Op, len(fields))
	for i, f := range fields {
		o, ok := takeOp(f)
		if !ok || refused(o) {
			return nil, false
		}
		batch[i] = o
	}
	return batch, true
}

// fieldOf holds what counts of an Op of its kind, and nothing else.
func fieldOf(o api.Op) []byte {
	kind := []byte{byte(o.Kind)}
	switch o.Kind {
	case api.OpPut:
		return codec.Row(kind, o.Key, o.Value)
	case api.OpWipe:
		return codec.Row(kind, o.Key, o.End)
	}
	return codec.Row(kind, o.Key)
}

// takeOp reads what fieldOf made.
func takeOp(b []byte) (api.Op, bool) {
	f, code := codec.TakeRow(b)
	if code != api.OK || len(f) < 2 || len(f[0]) != 1 {
		return api.Op{}, false
	}
	o := api.Op{Kind: int(f[0][0]), Key: f[1]}
	switch {
	case o.Kind == api.OpDelete:
		return o, len(f) == 2
	case len(f) != 3:
		return api.Op{}, false
	case o.Kind == api.OpPut:
		o.Value = f[2]
	default:
		o.End = f[2]
	}
	return o, true
}
