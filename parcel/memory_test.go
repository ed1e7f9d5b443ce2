package parcel

import (
	"bytes"
	"testing"

	"regatta/api"
)

const spare = 16

// room lays b into memory with spare room behind it that must stay as it is.
func room(b []byte) (handed, whole []byte) {
	whole = bytes.Repeat([]byte{0xA5}, len(b)+spare)
	copy(whole, b)
	return whole[:len(b)], whole
}

// scribble writes over b and its spare room.
func scribble(b []byte) {
	b = b[:cap(b)]
	for i := range b {
		b[i] ^= 0x5A
	}
}

func TestPackLeavesAndSharesNothing(t *testing.T) { // R3
	b := []byte("what is handed in is neither changed nor kept")
	for _, size := range []int{1, 7, 45, 99} {
		handed, whole := room(b)
		was := bytes.Clone(whole)
		l := pack(t, handed, size)
		if !bytes.Equal(whole, was) {
			t.Errorf("Pack changes what is handed in, to %x", whole)
		}
		scribble(handed)
		plain := pack(t, b, size)
		for i := range l {
			if !bytes.Equal(l[i], plain[i]) {
				t.Errorf("piece %d hangs on what is handed in, or on one ahead of it", i)
			}
			scribble(l[i])
		}
	}
}

func TestPutKeepsNothing(t *testing.T) { // R3
	b := []byte("what is handed in is neither changed nor kept")
	x := boxFor(t, string(b))
	for _, p := range pack(t, b, 7) {
		for range 2 {
			handed, whole := room(p)
			was := bytes.Clone(whole)
			put(t, x, handed, api.OK)
			if !bytes.Equal(whole, was) {
				t.Errorf("Put changes what is handed in, to %x", whole)
			}
			scribble(handed)
		}
	}
	done(t, x, string(b))
}

func TestAnswersAreNew(t *testing.T) { // R3
	b := "what is answered is new memory"
	for _, size := range []int{30, 4} {
		x := boxFor(t, b)
		l := pack(t, []byte(b), size)
		for i, p := range l {
			put(t, x, p, api.OK)
			m := x.Missing()
			for k := range m[:cap(m)] {
				m[:cap(m)][k] = 99
			}
			if len(m) != len(l)-1-i || len(m) > 0 && x.Missing()[0] != i+1 {
				t.Errorf("Missing behind %d pieces, an answer being scribbled on: %v", i+1, x.Missing())
			}
		}
		for range 3 {
			got, ok := x.Done()
			if !ok || string(got) != b {
				t.Errorf("Done, an answer being scribbled on: %q, %t", got, ok)
			}
			scribble(got)
		}
	}
}

func TestNilAndEmptyMeanTheSame(t *testing.T) { // R3
	a, b := pack(t, nil, 3), pack(t, []byte{}, 3)
	if len(a) != 1 || len(b) != 1 || !bytes.Equal(a[0], b[0]) {
		t.Errorf("Pack of nil %x, of an empty list %x", a, b)
	}
	x := boxFor(t, "")
	want(t, "Put(nil)", x.Put(nil), api.ErrShort)
	want(t, "Put of an empty list", x.Put([]byte{}), api.ErrShort)
}

func TestBoxesHaveNothingInCommon(t *testing.T) { // R4
	x, y := boxFor(t, "abcdef"), boxFor(t, "abcdef")
	put(t, x, of("abcdef", 2, 0, "abc"), api.OK)
	missing(t, y, "[0]")
	put(t, y, of("abcdef", 3, 2, "ef"), api.OK)
	put(t, x, of("abcdef", 2, 1, "def"), api.OK)
	missing(t, y, "[0 1]")
	notDone(t, y)
	done(t, x, "abcdef")
}

func TestTheSameAgain(t *testing.T) { // R4: whatever the order of a map is
	b := anyBytes(dice(), 500)
	for range 20 {
		l := pack(t, b, 3)
		x := boxFor(t, string(b))
		for i, p := range l {
			if i%3 == 0 {
				put(t, x, p, api.OK)
			}
		}
		was := told(x)
		for range 20 {
			if got := told(x); got != was {
				t.Fatalf("told again: %s; it was %s", got, was)
			}
		}
		for _, p := range l {
			put(t, x, p, api.OK)
		}
		done(t, x, string(b))
	}
}
