package codec

import (
	"bytes"
	"testing"

	"regatta/api"
)

const spare = 16

// room lays b into memory with spare room behind it that must stay as it is.
func room(b []byte) (handed, whole []byte) {
	whole = bytes.Repeat([]byte{0xA5}, len(b)+spare)
	copy(whole, b)
	return whole[:len(b)], whole
}

// ownMemory: lists share nothing with each other nor with what was handed in (whole, which was as want says).
func ownMemory(t *testing.T, name string, lists [][]byte, whole, want []byte) {
	t.Helper()
	if !bytes.Equal(whole, want) {
		t.Errorf("%s(%x): what was handed in is changed, to %x", name, want, whole)
	}
	kept := make([][]byte, len(lists))
	for i, l := range lists {
		kept[i] = bytes.Clone(l)
	}
	for i := range whole {
		whole[i] ^= 0xFF
	}
	for i, l := range lists {
		if !bytes.Equal(l, kept[i]) {
			t.Errorf("%s(%x): list %d hangs on what was handed in", name, want, i)
		}
	}
	for i, l := range lists {
		for k := range l[:cap(l)] {
			l[:cap(l)][k] = 0x5A
		}
		for k := i + 1; k < len(lists); k++ {
			if !bytes.Equal(lists[k], kept[k]) {
				t.Errorf("%s(%x): the lists %d and %d share memory", name, want, i, k)
			}
		}
	}
	for i := range whole {
		if whole[i] != want[i]^0xFF {
			t.Errorf("%s(%x): an answer shares byte %d of what was handed in", name, want, i)
			return
		}
	}
}

func TestTakesLeaveWhatIsHandedIn(t *testing.T) { // R3
	good := 0
	for _, c := range takes() {
		for _, b := range forms() {
			handed, whole := room(b)
			want := bytes.Clone(whole)
			lists, _, _, e := c.take(handed)
			if e == api.OK {
				good++
			}
			ownMemory(t, c.name, lists, whole, want)
		}
	}
	if good < 1000 {
		t.Errorf("only %d of the calls read something: the test shows nothing", good)
	}
}

func TestTakeRowSharesNothing(t *testing.T) { // R3
	handed, whole := room(Row([]byte("one"), []byte("two"), nil, []byte("four")))
	want := bytes.Clone(whole)
	fields, e := TakeRow(handed)
	if e != api.OK || len(fields) != 4 {
		t.Fatalf("TakeRow: %x, error %d", fields, e)
	}
	first := append(fields[0], "behind"...)
	if string(first) != "onebehind" || string(fields[1]) != "two" {
		t.Errorf("to append to one field changes the next: %q", fields[1])
	}
	ownMemory(t, "TakeRow", fields, whole, want)
}

func TestMakersLeaveWhatIsHandedIn(t *testing.T) { // R3
	rows := []struct {
		name string
		make func([]byte) []byte
	}{
		{"Bytes", Bytes},
		{"Frame", Frame},
		{"Key", func(b []byte) []byte { return Key(b, 7) }},
		{"Row", func(b []byte) []byte { return Row(b) }},
		{"Row of two", func(b []byte) []byte { return Row(b, b) }},
		{"Sum", func(b []byte) []byte { Sum(b); return nil }},
	}
	for _, r := range rows {
		for _, b := range texts() {
			handed, whole := room(b)
			want := bytes.Clone(whole)
			ownMemory(t, r.name, [][]byte{r.make(handed)}, whole, want)
		}
	}
}

func TestRowLeavesTheListOfFields(t *testing.T) { // R3
	all := [][]byte{[]byte("one"), []byte("two"), []byte("three"), []byte("four")}
	Row(all[:2]...)
	for i, want := range []string{"one", "two", "three", "four"} {
		if string(all[i]) != want {
			t.Errorf("field %d is %q behind the call; want %q", i, all[i], want)
		}
	}
}

func TestTheSameAgain(t *testing.T) { // R4
	for _, c := range takes() {
		for _, b := range forms() {
			lists, again, _, e := c.take(b)
			lists2, again2, _, e2 := c.take(b)
			if e != e2 || !bytes.Equal(again, again2) || len(lists) != len(lists2) {
				t.Errorf("%s(%x) answers twice, and not the same", c.name, b)
			}
		}
	}
	one, two := Varint(300), Varint(300)
	one[0] = 0
	if told(two) != "ac02" || told(Varint(300)) != "ac02" {
		t.Errorf("an answer of Varint hangs on another one")
	}
}
