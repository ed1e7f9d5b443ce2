package parcel

import (
	"bytes"
	"encoding/hex"
	"fmt"
	"math/rand/v2"
	"strings"
	"testing"

	"regatta/api"
	"regatta/codec"
)

// dice falls the same way in every run.
func dice() *rand.Rand { return rand.New(rand.NewPCG(14, 41)) }

func anyBytes(r *rand.Rand, size int) []byte {
	b := make([]byte, size)
	for i := range b {
		b[i] = byte(r.Uint32())
	}
	return b
}

// raw makes bytes of hexadecimal digits; spaces between them don't count.
func raw(t *testing.T, s string) []byte {
	t.Helper()
	b, err := hex.DecodeString(strings.ReplaceAll(s, " ", ""))
	if err != nil {
		t.Fatalf("the test's own digits %q: %v", s, err)
	}
	return b
}

// made is a piece as the chapter writes it.
func made(sum, length, many, at uint64, part string) []byte {
	return codec.Frame(codec.Row(codec.Varint(sum), codec.Varint(length), codec.Varint(many), codec.Varint(at), []byte(part)))
}

// of is a piece of the text b: the one with the number at, of many, with that part.
func of(b string, many, at uint64, part string) []byte {
	return made(uint64(codec.Sum([]byte(b))), uint64(len(b)), many, at, part)
}

func pack(t *testing.T, b []byte, size int) [][]byte {
	t.Helper()
	l, e := Pack(b, size)
	want(t, fmt.Sprintf("Pack(%d bytes, %d)", len(b), size), e, api.OK)
	return l
}

func box(t *testing.T, sum uint32, length int) *Box {
	t.Helper()
	x, e := NewBox(sum, length)
	want(t, fmt.Sprintf("NewBox(%d, %d)", sum, length), e, api.OK)
	if x == nil {
		t.Fatal("NewBox: no box")
	}
	return x
}

func boxFor(t *testing.T, b string) *Box {
	t.Helper()
	return box(t, codec.Sum([]byte(b)), len(b))
}

func want(t *testing.T, what string, got, e api.Errno) {
	t.Helper()
	if got != e {
		t.Errorf("%s: error %d; want %d", what, got, e)
	}
}

func put(t *testing.T, x *Box, piece []byte, e api.Errno) {
	t.Helper()
	want(t, fmt.Sprintf("Put(%x)", piece), x.Put(piece), e)
}

// missing: these numbers are told, written as fmt writes them.
func missing(t *testing.T, x *Box, numbers string) {
	t.Helper()
	if got := fmt.Sprint(x.Missing()); got != numbers {
		t.Errorf("Missing: %s; want %s", got, numbers)
	}
}

// done: these bytes are told.
func done(t *testing.T, x *Box, b string) {
	t.Helper()
	if got, ok := x.Done(); string(got) != b || !ok {
		t.Errorf("Done: %q, %t; want %q", got, ok, b)
	}
}

// notDone: nothing is told.
func notDone(t *testing.T, x *Box) {
	t.Helper()
	if got, ok := x.Done(); got != nil || ok {
		t.Errorf("Done: %q, %t; want nothing", got, ok)
	}
}

// told is all that a box tells.
func told(x *Box) string {
	b, ok := x.Done()
	return fmt.Sprintf("%v %x %t", x.Missing(), b, ok)
}

// forged is b with four bytes behind it, such that the sum is this one.
func forged(t *testing.T, b []byte, sum uint32) []byte {
	t.Helper()
	back := ^sum
	for range 32 {
		if back >= 1<<31 {
			back = (back^0xEDB88320)<<1 | 1
		} else {
			back <<= 1
		}
	}
	d := ^codec.Sum(b) ^ back
	out := append(bytes.Clone(b), byte(d), byte(d>>8), byte(d>>16), byte(d>>24))
	if codec.Sum(out) != sum {
		t.Fatalf("the test's own forging of %x: sum %08x; want %08x", b, codec.Sum(out), sum)
	}
	return out
}
