package codec

import (
	"bytes"

	"regatta/api"
)

const (
	group = 8   // bytes of a text that stand together
	full  = 255 // the byte behind a group to which nothing was filled up
)

// Bytes: b in a form whose order is that of the texts, whatever stands behind it.
func Bytes(b []byte) []byte {
	out := make([]byte, 0, (len(b)/group+1)*(group+1))
	for len(b) >= group {
		out = append(out, b[:group]...)
		out = append(out, full)
		b = b[group:]
	}
	fill := group - len(b)
	out = append(out, b...)
	for range fill {
		out = append(out, 0)
	}
	return append(out, byte(full-fill))
}

// TakeBytes reads what Bytes made.
func TakeBytes(b []byte) ([]byte, []byte, api.Errno) {
	text, rest, e := readBytes(b)
	return text, bytes.Clone(rest), e
}

// Key: a key and a time; of one key the latest time comes first.
func Key(key []byte, ts uint64) []byte {
	return append(Bytes(key), Desc(ts)...)
}

// TakeKey reads what Key made, and nothing may stand behind it.
func TakeKey(b []byte) ([]byte, uint64, api.Errno) {
	key, rest, e := readBytes(b)
	if e != api.OK {
		return nil, 0, e
	}
	ts, rest, e := readDesc(rest)
	if e != api.OK {
		return nil, 0, e
	}
	if len(rest) > 0 {
		return nil, 0, api.ErrForm
	}
	return key, ts, api.OK
}

// readBytes answers a text of its own (the groups' ends are left out of it), and what stands behind, shared with b.
func readBytes(b []byte) ([]byte, []byte, api.Errno) {
	var text []byte
	for {
		part, e := readGroup(b)
		if e != api.OK {
			return nil, nil, e
		}
		text = append(text, part...)
		b = b[group+1:]
		if len(part) < group {
			return text, b, api.OK
		}
	}
}

// readGroup answers what of the first group was not filled up.
func readGroup(b []byte) ([]byte, api.Errno) {
	if len(b) < group+1 {
		return nil, api.ErrShort
	}
	fill := full - int(b[group])
	if fill > group {
		return nil, api.ErrForm
	}
	for _, x := range b[group-fill : group] {
		if x != 0 {
			return nil, api.ErrForm
		}
	}
	return b[:group-fill], api.OK
}
