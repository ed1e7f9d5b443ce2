package region

import (
	"bytes"
	"fmt"
	"math/rand/v2"
	"slices"
	"sort"
	"testing"

	"regatta/api"
	"regatta/conf"
)

// world is a partition that is split, merged and given other members at random.
type world struct {
	*rand.Rand
	l    []api.Region
	next uint64 // the next number of a region or peer
}

func newWorld(seed uint64) *world {
	return &world{Rand: rand.New(rand.NewPCG(10, seed)), l: all("1 - - 1/1 1@1 2@2 3@3"), next: 10}
}

func (w *world) number() uint64 {
	w.next++
	return w.next
}

// anyKey is a text of up to three letters.
func (w *world) anyKey() []byte {
	var k []byte
	for range w.IntN(4) {
		k = append(k, "\x00am\xff"[w.IntN(4)])
	}
	return k
}

func (w *world) fresh(n int) []uint64 {
	var l []uint64
	for range n {
		l = append(l, w.number())
	}
	return l
}

// shuffled is the same regions in another order.
func (w *world) shuffled() []api.Region {
	l := slices.Clone(w.l)
	w.Shuffle(len(l), func(i, k int) { l[i], l[k] = l[k], l[i] })
	return l
}

func (w *world) split(t *testing.T) bool {
	i, at := w.IntN(len(w.l)), w.anyKey()
	r := w.l[i]
	low, high, e := Split(r, at, w.number(), w.fresh(len(r.Peers)))
	inside := bytes.Compare(at, r.Start) > 0 && lies(r, string(at))
	if !inside {
		want(t, fmt.Sprintf("Split of %s at %q", told(r), at), e, api.ErrRange)
		return false
	}
	want(t, fmt.Sprintf("Split of %s at %q", told(r), at), e, api.OK)
	wantIs(t, "the first is newer", Newer(low.Epoch, r.Epoch), true)
	wantIs(t, "the second is newer", Newer(high.Epoch, r.Epoch), true)
	wantIs(t, "what was is stale", Stale(low, r.Epoch) && Stale(high, r.Epoch), true)
	wantIs(t, "they overlap", Overlap(low, high), false)
	w.wantBack(t, r, low, high)
	w.wantBack(t, r, high, low)
	w.l = in(w.l, i, i+1, low, high)
	return true
}

// wantBack: the merge of what r was split to has r's range and stores.
func (w *world) wantBack(t *testing.T, r, target, source api.Region) {
	t.Helper()
	m, e := Merge(target, source)
	want(t, "Merge of what was split", e, api.OK)
	same := bytes.Equal(m.Start, r.Start) && bytes.Equal(m.End, r.End) && slices.Equal(stores(m), stores(r))
	wantIs(t, "Merge of what was split to has the range and stores of "+told(r)+": "+told(m), same, true)
}

// stores are where the region is, with the learners' negative, rising.
func stores(r api.Region) []int {
	var l []int
	for _, p := range r.Peers {
		if p.Learner {
			l = append(l, -p.Store)
		} else {
			l = append(l, p.Store)
		}
	}
	sort.Ints(l)
	return l
}

func (w *world) merge(t *testing.T) bool {
	if len(w.l) < 2 {
		return false
	}
	i := w.IntN(len(w.l) - 1)
	target, source := w.l[i], w.l[i+1]
	if w.IntN(2) == 0 {
		target, source = source, target
	}
	m, e := Merge(target, source)
	if !slices.Equal(stores(target), stores(source)) {
		want(t, "Merge of others", e, api.ErrEpoch)
		return false
	}
	want(t, "Merge", e, api.OK)
	wantIs(t, "newer than the target", Newer(m.Epoch, target.Epoch), true)
	wantIs(t, "newer than the source", Newer(m.Epoch, source.Epoch), true)
	wantIs(t, "what was is stale", Stale(m, target.Epoch) && Stale(m, source.Epoch), true)
	if m.ID != target.ID || !slices.Equal(m.Peers, target.Peers) {
		t.Errorf("Merge: %s is not the target %s", told(m), told(target))
	}
	w.l = in(w.l, i, i+2, m)
	return true
}

// confOfRegion is the configuration that the region's peers are.
func confOfRegion(r api.Region) api.Conf {
	var c api.Conf
	for _, p := range r.Peers {
		if p.Learner {
			c.Learners = append(c.Learners, p.ID)
		} else {
			c.Voters = append(c.Voters, p.ID)
		}
	}
	return c
}

func (w *world) members(t *testing.T) bool {
	i := w.IntN(len(w.l))
	r := w.l[i]
	place := api.Peer{ID: w.number(), Store: 1 + w.IntN(4)}
	change := api.Change{Kind: api.ChangeVoter + w.IntN(2), Peer: place.ID}
	if w.IntN(2) == 0 {
		change = api.Change{Kind: api.ChangeRemove, Peer: r.Peers[w.IntN(len(r.Peers))].ID}
	}
	c, e := conf.Enter(confOfRegion(r), []api.Change{change})
	if e == api.OK && w.IntN(2) == 0 && conf.Joint(c) {
		c, _ = conf.Leave(c)
	}
	if e != api.OK {
		return false
	}
	m, e := Members(r, c, []api.Peer{place})
	if _, taken := On(r, place.Store); taken && change.Kind != api.ChangeRemove {
		want(t, "Members with two on one store", e, api.ErrArg)
		return false
	}
	want(t, "Members", e, api.OK)
	wantIs(t, "newer", Newer(m.Epoch, r.Epoch), true)
	wantIs(t, "what was is stale", Stale(m, r.Epoch), true)
	if !slices.Equal(numbers(m.Peers), conf.Members(c)) || !bytes.Equal(m.Start, r.Start) || !bytes.Equal(m.End, r.End) || m.ID != r.ID {
		t.Errorf("Members: %s of %s", told(m), told(r))
	}
	w.l = in(w.l, i, i+1, m)
	return true
}

func (w *world) look(t *testing.T) {
	t.Helper()
	l := w.shuffled()
	wantIs(t, "Partition behind a change", Partition(l), true)
	wantIs(t, "Partition without one of them", Partition(l[1:]), false)
	wantIs(t, "Partition with one of them twice", Partition(append(slices.Clone(l), l[w.IntN(len(l))])), false)
	for _, r := range l {
		want(t, "Check("+told(r)+")", Check(r), api.OK)
		again, e := Decode(Encode(r))
		wantIs(t, "Decode of Encode", told(again) == told(r) && e == api.OK, true)
	}
	k := w.anyKey()
	if at := Find(l, k); at < 0 || !lies(l[at], string(k)) || counted(l, string(k)) != 1 {
		t.Errorf("Find(%q): %d of %v", k, at, l)
	}
}

func TestAPartitionStays(t *testing.T) { // P10.8
	const runs, steps = 60, 80
	var done [3]int
	for seed := range uint64(runs) {
		w := newWorld(seed)
		for range steps {
			what := w.IntN(3)
			if [...]func(*testing.T) bool{w.split, w.merge, w.members}[what](t) {
				done[what]++
				w.look(t)
			}
			if t.Failed() {
				t.Fatalf("seed %d", seed)
			}
		}
	}
	for what, n := range done {
		if n < 200 {
			t.Errorf("only %d changes of kind %d were done", n, what)
		}
	}
}

// Every split of every range over a few texts, with every partition around it.
func TestSplitOfEach(t *testing.T) { // P10.3, P10.8
	texts := words("ab", 2)
	for _, s := range spansOver(texts) {
		s.Peers = peers("1@1")
		for _, at := range texts {
			low, high, e := Split(s, []byte(at), 99, list("2"))
			inside := lies(s, at) && at != string(s.Start)
			wantIs(t, "Split of "+told(s)+" at "+at, e == api.OK, inside)
			if !inside {
				want(t, "Split of "+told(s)+" at "+at, e, api.ErrRange)
				continue
			}
			l := []api.Region{low, high}
			if len(s.Start) > 0 {
				l = append(l, api.Region{End: s.Start})
			}
			if len(s.End) > 0 {
				l = append(l, api.Region{Start: s.End})
			}
			wantIs(t, "Partition with what "+told(s)+" is split to", Partition(l), true)
		}
	}
}

func TestExamples(t *testing.T) { // the chapter's table
	a, b, e := Split(of("1 - - 1/1 1@1 2@2 3@3"), []byte("m"), 7, list("4 5 6"))
	wantRegion(t, "the first", a, e, "1 - m 1/2 1@1 2@2 3@3")
	wantRegion(t, "the second", b, e, "7 m - 1/2 4@1 5@2 6@3")
	m, e := Merge(a, b)
	wantRegion(t, "Merge of these two", m, e, "1 - - 1/3 1@1 2@2 3@3")
	wantIs(t, "Partition of these two", Partition([]api.Region{a, b}), true)
	wantIs(t, "of the first alone", Partition([]api.Region{a}), false)
	wantIs(t, "of none", Partition(nil), false)
	wantIs(t, "Stale(1 .. 1/2, 1/1)", Stale(a, epoch("1/1")), true)
	wantIs(t, "Stale(.., 2/2)", Stale(a, epoch("2/2")), false)
	wantIs(t, "Newer(1/2, 5/1)", Newer(epoch("1/2"), epoch("5/1")), true)
}
