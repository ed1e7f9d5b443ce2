package cache

import (
	"bytes"
	"fmt"
	"slices"
	"testing"

	"regatta/api"
)

const spare = 8

// room lays a list into memory with spare room behind it.
func room[T any](l []T) []T {
	return append(slices.Clone(l), make([]T, spare)...)[:len(l)]
}

// whole tells a region with the spare room of its lists.
func whole(r api.Region) string {
	return fmt.Sprintln(told(r), r.Start[:cap(r.Start)], r.End[:cap(r.End)], r.Peers[:cap(r.Peers)])
}

// scribble writes over all that a region has, with the spare room.
func scribble(r api.Region) {
	for _, b := range [][]byte{r.Start, r.End} {
		for i := range b[:cap(b)] {
			b[:cap(b)][i] ^= 0x5a
		}
	}
	for i := range r.Peers[:cap(r.Peers)] {
		r.Peers[:cap(r.Peers)][i] = api.Peer{ID: 99, Store: 99}
	}
}

func TestPutKeepsNothingHandedIn(t *testing.T) { // R3
	r := of("2 b m 1/1")
	r.Start, r.End, r.Peers = room(r.Start), room(r.End), room(r.Peers)
	was := whole(r)
	c := New()
	c.Put(r, 2)
	c.Put(r, 0)
	if whole(r) != was {
		t.Errorf("Put changes what is handed in")
	}
	scribble(r)
	if got := all(c); got != told(of("2 b m 1/1"))+", leader 2\n" {
		t.Errorf("what is remembered hangs on what was handed in: %s", got)
	}
}

func TestAnswersAreNew(t *testing.T) { // R3
	c := with(t, "2 b m 1/1=2", "3 m z 1/1=1")
	was := all(c)
	r, _, _ := c.Find([]byte("c"))
	scribble(r)
	l := c.All()
	again := c.All()
	told := tell(l)
	for _, r := range again {
		scribble(r)
	}
	if tell(l) != told {
		t.Errorf("two answers share memory")
	}
	scribble(l[0])
	if told := tell(l[1:]); told != tell(c.All()[1:]) {
		t.Errorf("two regions of one answer share memory")
	}
	if all(c) != was {
		t.Errorf("an answer shares memory with the cache")
	}
}

func TestGroupsMemory(t *testing.T) { // R3: pieces that are new, and share nothing
	c := with(t, "2 b m 1/1=2", "3 m z 1/1=1")
	l := room(keys("b c m n"))
	for i := range l {
		l[i] = room(l[i])
	}
	pieces := c.Group(l)
	for _, k := range l[:cap(l)] {
		if len(l[:cap(l)]) != 4+spare || len(k) > 0 && !bytes.Equal(k[1:cap(k)], make([]byte, cap(k)-1)) {
			t.Fatalf("Group changes what is handed in: %q", l[:cap(l)])
		}
	}
	for i := range l {
		l[i][0] = '!'
		l[i] = nil
	}
	if groups(pieces) != `|"b" "c" |"m" "n" ` {
		t.Errorf("pieces hang on what was handed in: %s", groups(pieces))
	}
	_ = append(pieces[0], []byte("more"))
	_ = append(pieces[0][0], "more"...)
	pieces[0][1][0] = '?'
	if groups(pieces) != `|"b" "?" |"m" "n" ` {
		t.Errorf("pieces share memory: %s", groups(pieces))
	}
}
