package row

import (
	"bytes"
	"fmt"
	"math"
	"testing"

	"regatta/api"
	"regatta/codec"
)

func TestLock(t *testing.T) {
	seen := map[string]string{}
	for i, turn := range []func(l *api.Lock){
		func(l *api.Lock) {},
		func(l *api.Lock) { *l = api.Lock{} },
		func(l *api.Lock) { l.Kind = -1 },
		func(l *api.Lock) { l.Key = nil },
		func(l *api.Lock) { l.Primary = []byte("k") },
		func(l *api.Lock) { l.Value = []byte("w") },
		func(l *api.Lock) { l.Start = math.MaxUint64 },
		func(l *api.Lock) { l.ForUpdate++ },
		func(l *api.Lock) { l.MinCommit++ },
		func(l *api.Lock) { l.Async = false },
		func(l *api.Lock) { l.Secondaries = l.Secondaries[:1] },
		func(l *api.Lock) { l.Secondaries[0] = nil },
	} {
		l := api.Lock{Kind: api.KindPut, Key: []byte("k"), Primary: []byte("p"), Value: []byte("v"), Start: 5, ForUpdate: 6, MinCommit: 7, Async: true, Secondaries: [][]byte{[]byte("a"), []byte("b")}}
		turn(&l)
		text, b := fmt.Sprint(l), Write(l, (*Walk).Lock)
		if other, there := seen[string(b)]; there {
			t.Errorf("turn %d: the bytes of %s and of %s are the same", i, text, other)
		}
		seen[string(b)] = text
		if m, ok := Read(b, (*Walk).Lock); !ok || fmt.Sprint(m) != text {
			t.Errorf("turn %d: %s is read as %v, %t", i, text, m, ok)
		}
	}
}

// coded walks over a number in a form of its own (codec's Uint) and a text.
type coded struct {
	n    uint64
	text []byte
}

func codedParts(w *Walk, x *coded) {
	Coded(w, &x.n, codec.Uint, func(b []byte) (uint64, api.Errno) {
		n, rest, e := codec.TakeUint(b)
		if len(rest) > 0 {
			return 0, api.ErrForm
		}
		return n, e
	})
	w.Text(&x.text)
}

func TestCoded(t *testing.T) {
	x := coded{258, []byte("text")}
	b := Write(x, codedParts)
	if !bytes.Equal(b, rowOf("\x00\x00\x00\x00\x00\x00\x01\x02", "text")) {
		t.Errorf("written as %x", b)
	}
	if y, ok := Read(b, codedParts); !ok || fmt.Sprint(y) != fmt.Sprint(x) {
		t.Errorf("read as %v, %t", y, ok)
	}
	for _, fields := range [][]string{{}, {"\x00\x00\x00\x00\x00\x00\x01", "text"}, {"\x00\x00\x00\x00\x00\x00\x00\x01\x02", "text"}, {"", "text"}, {"\x00\x00\x00\x00\x00\x00\x01\x02"}} {
		if y, ok := Read(rowOf(fields...), codedParts); ok || y.n != 0 {
			t.Errorf("%q is read as %v", fields, y)
		}
	}
}

func TestRefuse(t *testing.T) { // a walk may refuse what no rule of a part refuses
	even := func(w *Walk, n *uint64) {
		w.Number(n)
		if *n%2 != 0 {
			w.Refuse()
		}
	}
	for n := range uint64(6) {
		got, ok := Read(rowOf(string(codec.Varint(n))), even)
		if ok != (n%2 == 0) || ok && got != n || !ok && got != 0 {
			t.Errorf("%d is read as %d, %t", n, got, ok)
		}
		l, ok := Read(rowOf(string(rowOf(string(codec.Varint(0)), string(codec.Varint(n))))), func(w *Walk, l *[]uint64) { List(w, l, even) })
		if ok != (n%2 == 0) || !ok && l != nil {
			t.Errorf("0 and %d are read as %v, %t", n, l, ok)
		}
	}
}
