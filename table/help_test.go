package table

import (
	"bytes"
	"fmt"
	"slices"
	"strings"
	"testing"

	"regatta/api"
	"regatta/codec"
)

// pairs makes pairs of a text, one a word: key=value, or key!value: the key is gone.
func pairs(text string) []api.Pair {
	var out []api.Pair
	for _, word := range strings.Fields(text) {
		at := strings.IndexAny(word, "=!")
		out = append(out, api.Pair{Key: []byte(word[:at]), Value: []byte(word[at+1:]), Gone: word[at] == '!'})
	}
	return out
}

// text tells pairs in the form of which pairs makes them.
func text(l []api.Pair) string {
	words := make([]string, len(l))
	for i, p := range l {
		mark := "="
		if p.Gone {
			mark = "!"
		}
		words[i] = string(p.Key) + mark + string(p.Value)
	}
	return strings.Join(words, " ")
}

func want(t *testing.T, what, got, told string) {
	t.Helper()
	if got != told {
		t.Errorf("%s: %q; want %q", what, got, told)
	}
}

func built(t *testing.T, l []api.Pair) []byte {
	t.Helper()
	b, e := Build(l)
	if e != api.OK {
		t.Fatalf("Build(%q): error %d", text(l), e)
	}
	return b
}

func opened(t *testing.T, b []byte) *Table {
	t.Helper()
	x, e := Open(b)
	if x == nil || e != api.OK {
		t.Fatalf("Open(%x): table %v, error %d", b, x, e)
	}
	return x
}

// tableOf is the open table of the pairs of a text.
func tableOf(t *testing.T, told string) *Table {
	t.Helper()
	return opened(t, built(t, pairs(told)))
}

func tablesOf(t *testing.T, l ...string) []*Table {
	t.Helper()
	var out []*Table
	for _, told := range l {
		out = append(out, tableOf(t, told))
	}
	return out
}

// disordered: Build answers ErrOrder, and nothing beside it.
func disordered(t *testing.T, l []api.Pair) {
	t.Helper()
	if b, e := Build(l); b != nil || e != api.ErrOrder {
		t.Errorf("Build(%q): %x, error %d; want ErrOrder", text(l), b, e)
	}
}

// refused: Open answers ErrTable, and no table beside it.
func refused(t *testing.T, what string, b []byte) {
	t.Helper()
	if x, e := Open(b); x != nil || e != api.ErrTable {
		t.Errorf("Open of %s (%x): table %v, error %d; want ErrTable", what, b, x, e)
	}
}

// has: the table tells just these pairs, by each of its calls.
func has(t *testing.T, x *Table, l []api.Pair) {
	t.Helper()
	if x.Len() != len(l) {
		t.Errorf("Len: %d; want %d", x.Len(), len(l))
	}
	want(t, "Range of all", text(x.Range(nil, nil)), text(l))
	for _, p := range l {
		gets(t, x, p)
	}
}

// gets: Get of the pair's key tells the pair.
func gets(t *testing.T, x *Table, p api.Pair) {
	t.Helper()
	got, there := x.Get(p.Key)
	if !there {
		t.Errorf("Get(%q): none", p.Key)
		return
	}
	want(t, fmt.Sprintf("Get(%q)", p.Key), text([]api.Pair{got}), text([]api.Pair{p}))
}

// lacks: Get of the key tells none, and nothing beside it.
func lacks(t *testing.T, x *Table, key string) {
	t.Helper()
	if p, there := x.Get([]byte(key)); there || p.Key != nil || p.Value != nil || p.Gone {
		t.Errorf("Get(%q): %v, %v; want none, false", key, p, there)
	}
}

// field is the row of one pair, its parts given as they are.
func field(parts ...string) []byte {
	l := make([][]byte, len(parts))
	for i, p := range parts {
		l[i] = []byte(p)
	}
	return codec.Row(l...)
}

// framed is the frame of a row of fields: the sum is right, whatever the fields are.
func framed(fields ...[]byte) []byte { return codec.Frame(codec.Row(fields...)) }

// spared is a copy of b with room behind it, and with all of that room.
func spared(b []byte) (handed, whole []byte) {
	whole = append(slices.Clone(b), bytes.Repeat([]byte{0xee}, 16)...)
	return whole[:len(b)], whole
}

// scribble writes over all memory that the pairs have, the room behind them too.
func scribble(l []api.Pair) {
	for i, p := range l {
		for _, b := range [][]byte{p.Key, p.Value} {
			b = b[:cap(b)]
			for j := range b {
				b[j] ^= 0xff
			}
		}
		l[i] = api.Pair{}
	}
	l = l[:cap(l)]
	clear(l)
}
