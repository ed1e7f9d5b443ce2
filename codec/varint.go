package codec

import (
	"bytes"

	"regatta/api"
)

const (
	more     = 0x80 // the bit that says: another byte follows
	sevens   = 7    // bits of the number in one byte
	maxBytes = 10   // bytes of the longest number
	lastMost = 1    // what the tenth byte may be at most: one bit of 64 is left
)

// Varint: n in as few bytes as can be.
func Varint(n uint64) []byte {
	var out []byte
	for n >= more {
		out = append(out, byte(n)|more)
		n >>= sevens
	}
	return append(out, byte(n))
}

// TakeVarint reads what Varint made.
func TakeVarint(b []byte) (uint64, []byte, api.Errno) {
	n, rest, e := readVarint(b)
	return n, bytes.Clone(rest), e
}

func readVarint(b []byte) (uint64, []byte, api.Errno) {
	size, e := varintSize(b)
	if e != api.OK {
		return 0, nil, e
	}
	last := b[size-1]
	if last == 0 && size > 1 || size == maxBytes && last > lastMost {
		return 0, nil, api.ErrForm
	}
	n := uint64(0)
	for i, x := range b[:size] {
		n |= uint64(x&^more) << (sevens * i)
	}
	return n, b[size:], api.OK
}

// varintSize is how many bytes go up to the first one behind which none follows.
func varintSize(b []byte) (int, api.Errno) {
	for i := range min(len(b), maxBytes) {
		if b[i] < more {
			return i + 1, api.OK
		}
	}
	if len(b) < maxBytes {
		return 0, api.ErrShort
	}
	return 0, api.ErrForm
}
