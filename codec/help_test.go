package codec

import (
	"bytes"
	"encoding/hex"
	"math/rand/v2"
	"strings"
	"testing"

	"regatta/api"
)

// raw makes bytes of hexadecimal digits; spaces between them don't count.
func raw(t *testing.T, s string) []byte {
	t.Helper()
	b, err := hex.DecodeString(strings.ReplaceAll(s, " ", ""))
	if err != nil {
		t.Fatalf("the test's own digits %q: %v", s, err)
	}
	return b
}

func told(b []byte) string { return hex.EncodeToString(b) }

// dice falls the same way in every run.
func dice() *rand.Rand { return rand.New(rand.NewPCG(1, 2)) }

func anyBytes(r *rand.Rand, size int) []byte {
	b := make([]byte, size)
	for i := range b {
		b[i] = byte(r.Uint32())
	}
	return b
}

// numbers holds the numbers of 64 bits at which something turns.
func numbers() []uint64 {
	l := []uint64{0, 1, 7, 127, 128, 255, 256, 258, 300, 1<<62 - 1, 1<<64 - 1}
	for i := range 64 {
		n := uint64(1) << i
		l = append(l, n-1, n, n+1)
	}
	return l
}

// texts holds texts of every length up to three groups, of bytes at the edges, and some of any bytes.
func texts() [][]byte {
	l := [][]byte{nil}
	for size := 1; size <= 25; size++ {
		for _, x := range []byte{0, 1, 'a', 247, 254, 255} {
			l = append(l, bytes.Repeat([]byte{x}, size))
		}
	}
	for _, s := range []string{"aaaaaaaa\x00", "aaaaaaab", "aaaaaaa", "aaaaaaa\x00", "a\x00", "a\x00\x00", "a\x00\x01", "ab", "aaaaaaaa\xff"} {
		l = append(l, []byte(s))
	}
	r := dice()
	for size := range 40 {
		l = append(l, anyBytes(r, size))
	}
	return l
}

// call is a Take, its results put in one form: the lists it answers (nil lists too), and what it read made again.
type call struct {
	name string
	take func(b []byte) (lists [][]byte, again []byte, zero bool, e api.Errno)
}

func takes() []call {
	number := func(take func([]byte) (uint64, []byte, api.Errno), make func(uint64) []byte) func([]byte) ([][]byte, []byte, bool, api.Errno) {
		return func(b []byte) ([][]byte, []byte, bool, api.Errno) {
			n, rest, e := take(b)
			return [][]byte{rest}, append(make(n), rest...), n == 0 && rest == nil, e
		}
	}
	text := func(take func([]byte) ([]byte, []byte, api.Errno), make func([]byte) []byte) func([]byte) ([][]byte, []byte, bool, api.Errno) {
		return func(b []byte) ([][]byte, []byte, bool, api.Errno) {
			x, rest, e := take(b)
			return [][]byte{x, rest}, append(make(x), rest...), x == nil && rest == nil, e
		}
	}
	return []call{
		{"TakeUint", number(TakeUint, Uint)},
		{"TakeDesc", number(TakeDesc, Desc)},
		{"TakeVarint", number(TakeVarint, Varint)},
		{"TakeBytes", text(TakeBytes, Bytes)},
		{"TakeFrame", text(TakeFrame, Frame)},
		{"TakeKey", func(b []byte) ([][]byte, []byte, bool, api.Errno) {
			key, ts, e := TakeKey(b)
			return [][]byte{key}, Key(key, ts), key == nil && ts == 0, e
		}},
		{"TakeRow", func(b []byte) ([][]byte, []byte, bool, api.Errno) {
			fields, e := TakeRow(b)
			return fields, Row(fields...), fields == nil, e
		}},
	}
}

// forms holds bytes that the package made, of each kind, and the same with something behind.
func forms() [][]byte {
	var l [][]byte
	for _, n := range numbers() {
		l = append(l, Uint(n), Desc(n), Varint(n), Key([]byte("key"), n))
	}
	all := texts()
	for i, b := range all {
		l = append(l, Bytes(b), Frame(b), Key(b, uint64(i)), Row(b), Row(b, all[0], all[(i+9)%len(all)]))
	}
	l = append(l, Row())
	for _, b := range l {
		l = append(l, append(bytes.Clone(b), 0), append(bytes.Clone(b), 'x', 255))
	}
	return l
}

// refusal is bytes that a Take refuses, and the error that the chapter names first.
type refusal struct {
	b string
	e api.Errno
}

// refused: the Take of that name answers the errors, and nothing beside them.
func refused(t *testing.T, name string, rows []refusal) {
	t.Helper()
	for _, c := range takes() {
		if c.name != name {
			continue
		}
		for _, r := range rows {
			if _, _, zero, e := c.take(raw(t, r.b)); e != r.e || !zero {
				t.Errorf("%s(%s): error %d, nothing beside it: %t; want error %d", name, r.b, e, zero, r.e)
			}
		}
		return
	}
	t.Fatalf("there is no %s", name)
}
