// Package codec is layer 1: see shared/doc/01-codec.md.
//
// The read functions inside answer pieces of what they are handed, so that a
// part of many parts is not copied again for each of them; the listed calls
// copy once, at their end, because what they answer is new memory.
package codec

import (
	"bytes"

	"regatta/api"
)

// wide is how many bytes a number of 64 bits has.
const wide = 8

// Uint: n in eight bytes whose order is that of the numbers.
func Uint(n uint64) []byte { return highFirst(n, wide) }

// TakeUint reads what Uint made.
func TakeUint(b []byte) (uint64, []byte, api.Errno) {
	n, rest, e := readUint(b)
	return n, bytes.Clone(rest), e
}

// Desc: n in eight bytes whose order is that of the numbers turned round.
func Desc(n uint64) []byte { return Uint(^n) }

// TakeDesc reads what Desc made.
func TakeDesc(b []byte) (uint64, []byte, api.Errno) {
	n, rest, e := readDesc(b)
	return n, bytes.Clone(rest), e
}

func readUint(b []byte) (uint64, []byte, api.Errno) {
	if len(b) < wide {
		return 0, nil, api.ErrShort
	}
	return number(b[:wide]), b[wide:], api.OK
}

func readDesc(b []byte) (uint64, []byte, api.Errno) {
	n, rest, e := readUint(b)
	if e != api.OK {
		return 0, nil, e
	}
	return ^n, rest, api.OK
}

// highFirst cuts the lowest size bytes of n to bytes, the highest first.
func highFirst(n uint64, size int) []byte {
	out := make([]byte, size)
	for i := range size {
		out[size-1-i] = byte(n >> (8 * i))
	}
	return out
}

// number is what highFirst made of up to eight bytes.
func number(b []byte) uint64 {
	n := uint64(0)
	for _, x := range b {
		n = n<<8 | uint64(x)
	}
	return n
}
