package codec

import (
	"bytes"

	"regatta/api"
)

// Row: fields one behind the other, each with its length ahead.
func Row(fields ...[]byte) []byte {
	out := Varint(uint64(len(fields)))
	for _, f := range fields {
		out = append(out, Varint(uint64(len(f)))...)
		out = append(out, f...)
	}
	return out
}

// TakeRow reads what Row made, and nothing may stand behind it.
func TakeRow(b []byte) ([][]byte, api.Errno) {
	count, b, e := readVarint(b)
	if e != api.OK {
		return nil, e
	}
	// Each field has a byte at least: a greater number could not be true, and would be long in the counting.
	if count > uint64(len(b)) {
		return nil, api.ErrForm
	}
	var fields [][]byte
	for range count {
		field, rest, e := readField(b)
		if e != api.OK {
			return nil, e
		}
		fields = append(fields, bytes.Clone(field))
		b = rest
	}
	if len(b) > 0 {
		return nil, api.ErrForm
	}
	return fields, api.OK
}

func readField(b []byte) ([]byte, []byte, api.Errno) {
	length, b, e := readVarint(b)
	if e != api.OK {
		return nil, nil, e
	}
	return readPart(b, length)
}
