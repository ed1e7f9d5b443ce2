package region

import (
	"bytes"
	"fmt"
	"slices"
	"testing"

	"regatta/api"
)

const spare = 8

// room lays a list into memory with spare room behind it.
func room[T any](l []T) []T {
	return append(slices.Clone(l), make([]T, spare)...)[:len(l)]
}

func roomy(s string) api.Region {
	r := of(s)
	r.Start, r.End, r.Peers = room(r.Start), room(r.End), room(r.Peers)
	return r
}

// whole tells a region with the spare room of its lists.
func whole(l ...api.Region) string {
	s := ""
	for _, r := range l {
		s += fmt.Sprintln(told(r), r.Start[:cap(r.Start)], r.End[:cap(r.End)], r.Peers[:cap(r.Peers)])
	}
	return s
}

// scribble writes over all that a region has, with the spare room.
func scribble(r api.Region) {
	for _, b := range [][]byte{r.Start, r.End} {
		for i := range b[:cap(b)] {
			b[:cap(b)][i] ^= 0x5a
		}
	}
	for i := range r.Peers[:cap(r.Peers)] {
		r.Peers[:cap(r.Peers)][i] = api.Peer{ID: 99, Store: 99}
	}
}

// wantOwn: no list of the answers is one that was handed in, or that another one of them has.
func wantOwn(t *testing.T, what string, answers []api.Region, handed ...api.Region) {
	t.Helper()
	was := whole(answers...)
	for _, r := range handed {
		scribble(r)
	}
	if whole(answers...) != was {
		t.Errorf("%s: what is answered hangs on what was handed in", what)
	}
	var lists [][]byte
	for _, r := range answers {
		lists = append(lists, r.Start, r.End)
	}
	for i, a := range lists {
		for k, b := range lists {
			was := bytes.Clone(b)
			for n := range a[:cap(a)] {
				a[:cap(a)][n] ^= 0x5a
			}
			if i != k && !bytes.Equal(b, was) {
				t.Errorf("%s: the lists %d and %d share memory", what, i, k)
			}
		}
	}
	for i, r := range answers {
		was := whole(answers[i+1:]...)
		scribble(r)
		if whole(answers[i+1:]...) != was {
			t.Errorf("%s: two answers share memory", what)
		}
	}
}

func TestChangesAreNew(t *testing.T) { // R3
	r, at, ids := roomy("1 b z 1/1 1@1 2@2~"), room([]byte("m")), room(list("4 5"))
	was := whole(r)
	low, high, e := Split(r, at, 7, ids)
	want(t, "Split", e, api.OK)
	if whole(r) != was || string(at[:cap(at)][:2]) != "m\x00" || fmt.Sprint(ids, ids[:cap(ids)][2]) != "[4 5] 0" {
		t.Errorf("Split changes what is handed in")
	}
	clear(ids[:cap(ids)])
	wantOwn(t, "Split", []api.Region{low, high}, r, api.Region{Start: at})

	for _, x := range [][2]string{{"1 b m 1/1 1@1 2@2~", "2 m z 1/1 3@1 4@2~"}, {"2 m z 1/1 3@1 4@2~", "1 b m 1/1 1@2~ 2@1"}} {
		a, b := roomy(x[0]), roomy(x[1])
		was = whole(a, b)
		m, e := Merge(a, b)
		want(t, "Merge", e, api.OK)
		if whole(a, b) != was {
			t.Errorf("Merge changes what is handed in")
		}
		wantOwn(t, "Merge", []api.Region{m}, a, b)
	}

	r, places := roomy("1 b z 1/1 1@1 2@2"), api.Region{Peers: room(peers("3@3"))}
	was = whole(r, places)
	c := confOf("1 2 | 1 | 3")
	m, e := Members(r, c, places.Peers)
	want(t, "Members", e, api.OK)
	if whole(r, places) != was || fmt.Sprint(c) != fmt.Sprint(confOf("1 2 | 1 | 3")) {
		t.Errorf("Members changes what is handed in")
	}
	clear(c.Voters)
	wantOwn(t, "Members", []api.Region{m}, r, places)
}

func TestBytesAreNew(t *testing.T) { // R3
	r := roomy("1 b z 1/1 1@1 2@2~")
	was := whole(r)
	b := Encode(r)
	if whole(r) != was {
		t.Errorf("Encode changes what is handed in")
	}
	whole1 := bytes.Clone(b)
	scribble(r)
	if !bytes.Equal(b, whole1) {
		t.Errorf("what Encode answers hangs on what was handed in")
	}
	b = room(b)
	x, e := Decode(b)
	want(t, "Decode", e, api.OK)
	if !bytes.Equal(b, whole1) || !bytes.Equal(b[len(b):cap(b)][:spare], make([]byte, spare)) {
		t.Errorf("Decode changes what is handed in")
	}
	wantOwn(t, "Decode", []api.Region{x}, api.Region{Start: b})
}

func TestAskingChangesNothing(t *testing.T) { // R3
	l := room([]api.Region{roomy("3 d - 1/1 5@1"), roomy("1 - b 1/1 1@1 2@2~"), roomy("2 b d 1/1 3@1")})
	was, k := whole(l...), room([]byte("c"))
	for range 2 {
		Partition(l)
		Find(l, k)
		for _, r := range l {
			Check(r)
			Covers(r, k)
			Overlap(r, l[0])
			On(r, 1)
			Stale(r, epoch("1/1"))
		}
	}
	if whole(l...) != was || !bytes.Equal(k[:cap(k)][:2], []byte("c\x00")) || l[:4][3].ID != 0 {
		t.Errorf("what is asked changes")
	}
	wantIs(t, "Partition of them", Partition(l), true)
}

func TestNothingIsOneForm(t *testing.T) { // R3: nil and an empty list mean the same
	none := api.Region{ID: 1, Peers: peers("1@1")}
	empty := api.Region{ID: 1, Start: []byte{}, End: []byte{}, Peers: peers("1@1")}
	for _, r := range []api.Region{none, empty} {
		want(t, "Check", Check(r), api.OK)
		wantIs(t, "Covers", Covers(r, nil) && Covers(r, []byte{}), true)
		wantIs(t, "Overlap", Overlap(r, none) && Overlap(r, empty), true)
		wantIs(t, "Partition", Partition([]api.Region{r}), true)
		if !bytes.Equal(Encode(r), Encode(none)) {
			t.Errorf("Encode tells nil from an empty list")
		}
		for _, at := range [][]byte{nil, {}} {
			_, _, e := Split(r, at, 2, list("2"))
			want(t, "Split at no byte", e, api.ErrRange)
		}
	}
	wantIs(t, "Partition of none", Partition([]api.Region{}), false)
	m, e := Members(none, api.Conf{Voters: list("1"), Old: []uint64{}, Learners: []uint64{}}, []api.Peer{})
	wantRegion(t, "Members", m, e, "1 - - 1/0 1@1")
}

func TestVeryMany(t *testing.T) { // R1: many that Check refuses, or that lie in a list
	const n = 1 << 17
	many := api.Region{ID: 1}
	var l []api.Region
	for i := range n {
		many.Peers = append(many.Peers, api.Peer{ID: uint64(i + 1), Store: i + 1})
		l = append(l, api.Region{Start: fmt.Appendf(nil, "%07d", i), End: fmt.Appendf(nil, "%07d", i+1)})
	}
	want(t, "Check of very many peers", Check(many), api.ErrArg)
	if p, ok := On(many, n); p.ID != n || !ok {
		t.Errorf("On: %v, %t", p, ok)
	}
	l[0].Start, l[n-1].End = nil, nil
	slices.Reverse(l)
	wantIs(t, "Partition of very many", Partition(l), true)
	if at := Find(l, []byte("0000007")); at != n-8 {
		t.Errorf("Find among very many: %d", at)
	}
	l[n/2].End = append(l[n/2].End, 0)
	wantIs(t, "Partition with one that goes too far", Partition(l), false)
	m, e := Members(api.Region{ID: 1, Peers: peers("1@1")}, confOf("1 2"), many.Peers)
	wantRegion(t, "Members with very many places", m, e, "1 - - 1/0 1@1 2@2")
}
