package codec

import (
	"bytes"

	"regatta/api"
)

const (
	sumBytes   = 4
	allOnes    = 1<<32 - 1
	polynomial = 0xEDB88320
)

// Sum: the CRC-32 of IEEE 802.3.
func Sum(b []byte) uint32 {
	c := uint32(allOnes)
	for _, x := range b {
		c ^= uint32(x)
		for range 8 {
			// Multiplied, not asked: the bit is like a coin's fall, and a branch on it is slow.
			c = c>>1 ^ (c&1)*polynomial
		}
	}
	return ^c
}

// Frame: b with its length and its sum ahead.
func Frame(b []byte) []byte {
	out := append(Varint(uint64(len(b))), highFirst(uint64(Sum(b)), sumBytes)...)
	return append(out, b...)
}

// TakeFrame reads what Frame made.
func TakeFrame(b []byte) ([]byte, []byte, api.Errno) {
	length, b, e := readVarint(b)
	if e != api.OK {
		return nil, nil, e
	}
	if len(b) < sumBytes {
		return nil, nil, api.ErrShort
	}
	sum := number(b[:sumBytes])
	body, rest, e := readPart(b[sumBytes:], length)
	if e != api.OK {
		return nil, nil, e
	}
	if uint64(Sum(body)) != sum {
		return nil, nil, api.ErrSum
	}
	return bytes.Clone(body), bytes.Clone(rest), api.OK
}

// readPart cuts off length bytes; length may be any number, so it is held against what is there ahead of any sum with it.
func readPart(b []byte, length uint64) ([]byte, []byte, api.Errno) {
	if length > uint64(len(b)) {
		return nil, nil, api.ErrShort
	}
	return b[:length], b[length:], api.OK
}
