package row

import (
	"bytes"
	"fmt"
	"math"
	"strings"
	"testing"

	"regatta/api"
	"regatta/codec"
)

// thing has parts of all kinds.
type thing struct {
	text   []byte
	a, b   uint64
	count  int
	is     bool
	region api.Region
	texts  [][]byte
	within []thing
}

func thingParts(w *Walk, x *thing) {
	w.Text(&x.text)
	w.Numbers(&x.a, &x.b)
	w.Count(&x.count)
	w.Yes(&x.is)
	w.Region(&x.region)
	List(w, &x.texts, (*Walk).Text)
	List(w, &x.within, thingParts)
}

func sample() thing {
	r := api.Region{ID: 300, Start: []byte("a"), End: []byte("bb"), Epoch: api.Epoch{Conf: 4, Version: 5},
		Peers: []api.Peer{{ID: 6, Store: -7, Learner: true}, {ID: math.MaxUint64, Store: math.MaxInt}}}
	leaf := thing{text: []byte("leaf"), count: math.MinInt, texts: [][]byte{nil, []byte("x"), nil}}
	return thing{text: []byte("top"), a: 1, b: math.MaxUint64, count: -1, is: true, region: r, within: []thing{leaf, {}, {within: []thing{leaf}}}}
}

func rowOf(fields ...string) []byte {
	var l [][]byte
	for _, f := range fields {
		l = append(l, []byte(f))
	}
	return codec.Row(l...)
}

func TestReadsWhatIsWritten(t *testing.T) {
	seen := map[string]string{}
	for i, turn := range []func(x *thing){
		func(x *thing) {},
		func(x *thing) { *x = thing{} },
		func(x *thing) { x.text = nil },
		func(x *thing) { x.a, x.b = x.b, x.a },
		func(x *thing) { x.count = math.MaxInt },
		func(x *thing) { x.count = math.MinInt },
		func(x *thing) { x.count = 1 << 32 },
		func(x *thing) { x.is = false },
		func(x *thing) { x.region.ID++ },
		func(x *thing) { x.region.Start, x.region.End = nil, []byte("abb") },
		func(x *thing) { x.region.Epoch.Conf, x.region.Epoch.Version = 5, 4 },
		func(x *thing) { x.region.Peers = x.region.Peers[:1] },
		func(x *thing) { x.region.Peers[0].ID++ },
		func(x *thing) { x.region.Peers[0].Store = 7 },
		func(x *thing) { x.region.Peers[0].Learner = false },
		func(x *thing) { x.region.Peers = nil },
		func(x *thing) { x.texts = [][]byte{nil} },
		func(x *thing) { x.texts = [][]byte{nil, nil} },
		func(x *thing) { x.within = x.within[1:] },
		func(x *thing) { x.within = x.within[:2] },
		func(x *thing) { x.within[2].within[0].is = true },
		func(x *thing) { x.within[2].within = append(x.within[2].within, thing{}) },
	} {
		x := sample()
		turn(&x)
		text, b := fmt.Sprint(x), Write(x, thingParts)
		if other, there := seen[string(b)]; there {
			t.Errorf("turn %d: the bytes of %s and of %s are the same", i, text, other)
		}
		seen[string(b)] = text
		if y, ok := Read(b, thingParts); !ok || fmt.Sprint(y) != text {
			t.Errorf("turn %d: %s is read as %v, %t", i, text, y, ok)
		}
	}
}

func TestNothingHasOneForm(t *testing.T) { // R3: nil and an empty list mean the same
	none := thing{text: []byte{}, texts: [][]byte{}, within: []thing{}, region: api.Region{Start: []byte{}, End: []byte{}, Peers: []api.Peer{}}}
	if !bytes.Equal(Write(none, thingParts), Write(thing{}, thingParts)) {
		t.Errorf("nil is told from an empty list")
	}
}

func TestOnlyOneFormIsRead(t *testing.T) { // R7: fields that are not written so
	const top = "\xff\xff\xff\xff\xff\xff\xff\xff\xff\x01"
	for _, r := range []struct {
		is     bool
		fields string
	}{
		{true, "\x01 \x05 \x01"}, {true, "\x00 \x00 \x00"}, {true, "\x80\x01 " + top + " \x00"},
		{false, ""}, {false, " \x05 \x01"}, {false, "\x01  \x01"}, {false, "\x01 \x05 "},
		{false, "\x81\x00 \x05 \x01"}, {false, "\x01 \x85\x00 \x01"}, {false, "\x01 \x05 \x81\x00"},
		{false, "\x01\x00 \x05 \x01"}, {false, "\x01 \x05\x05 \x01"}, {false, "\x01 \x05 \x01\x01"},
		{false, "\x80 \x05 \x01"}, {false, "\x01 \x05 \x02"}, {false, "\x01 \x05 " + top},
		{false, "\x01 \x05"}, {false, "\x01 \x05 \x01 \x01"}, {false, "\x01 \x05 \x01 \x01 \x05"},
		{false, "\x01 \x05 \x01 \x01 \x05 \x01"}, {false, "\xff\xff\xff\xff\xff\xff\xff\xff\xff\x02 \x05 \x01"},
	} {
		b := rowOf(strings.Split(r.fields, " ")...)
		p, ok := Read(b, (*Walk).Peer)
		if ok != r.is || !ok && p != (api.Peer{}) || ok && !bytes.Equal(Write(p, (*Walk).Peer), b) {
			t.Errorf("a peer of %q: %v, %t", r.fields, p, ok)
		}
	}
	if _, ok := Read(rowOf(), (*Walk).Peer); ok {
		t.Errorf("a peer is read of no field")
	}
}

func TestListsThatEndEarly(t *testing.T) { // R7: an element is there wholly; a field without a byte is one
	var fields []string
	for n := range 13 {
		b := rowOf(string(rowOf(fields...)))
		walk := func(w *Walk, l *[]api.Epoch) {
			List(w, l, func(w *Walk, e *api.Epoch) {
				var text []byte
				w.Epoch(e)
				w.Text(&text)
			})
		}
		l, ok := Read(b, walk)
		if ok != (n%3 == 0) || ok && len(l) != n/3 || !ok && l != nil {
			t.Errorf("a list of %d fields: %v, %t", n, l, ok)
		}
		if ok && !bytes.Equal(Write(l, walk), b) {
			t.Errorf("a list of %d fields has other bytes when it was read", n)
		}
		fields = append(fields, []string{"\x01", "\x02", ""}[n%3])
	}
}

func TestRefusedBytes(t *testing.T) {
	b := Write(sample(), thingParts)
	refused := func(what string, b []byte) {
		t.Helper()
		if x, ok := Read(b, thingParts); ok || fmt.Sprint(x) != fmt.Sprint(thing{}) {
			t.Errorf("%s: %v, %t", what, x, ok)
		}
	}
	for n := range b {
		refused(fmt.Sprint(n, " bytes"), b[:n])
	}
	fields, _ := codec.TakeRow(b)
	refused("two things", codec.Row(append(fields, fields...)...))
	refused("a field fewer", codec.Row(fields[1:]...))
	refused("a byte behind", append(bytes.Clone(b), 0))
	refused("no thing", codec.Row())
}

func TestMemory(t *testing.T) { // R3: what is handed in is neither changed nor kept
	x := sample()
	text := fmt.Sprint(x)
	b := Write(x, thingParts)
	if fmt.Sprint(x) != text {
		t.Errorf("Write changes what is handed in, to %v", x)
	}
	was := bytes.Clone(b)
	y, _ := Read(b, thingParts)
	if !bytes.Equal(b, was) {
		t.Errorf("Read changes what is handed in")
	}
	clear(b)
	clear(x.text)
	clear(x.region.Peers)
	clear(x.within)
	if fmt.Sprint(y) != text {
		t.Errorf("what was read hangs on its bytes: %v", y)
	}
}
