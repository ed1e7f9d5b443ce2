package cache

import (
	"bytes"
	"fmt"
	"math/rand/v2"
	"slices"
	"testing"

	"regatta/api"
	"regatta/region"
)

// plain is what a client remembers, in the plainest way: regions and leaders, in any order.
type plain struct {
	regions map[uint64]api.Region
	leaders map[uint64]int
}

func (p *plain) put(r api.Region, leader int) bool {
	if region.Check(r) != api.OK {
		return false
	}
	for id, o := range p.regions {
		if id == r.ID && region.Newer(o.Epoch, r.Epoch) || id != r.ID && region.Overlap(o, r) && o.Epoch.Version > r.Epoch.Version {
			return false
		}
	}
	if !p.votes(r, leader) {
		leader = 0
		if o, there := p.regions[r.ID]; there && o.Epoch == r.Epoch && p.votes(r, p.leaders[r.ID]) {
			leader = p.leaders[r.ID]
		}
	}
	for id, o := range p.regions {
		if id != r.ID && region.Overlap(o, r) {
			delete(p.regions, id)
			delete(p.leaders, id)
		}
	}
	p.regions[r.ID], p.leaders[r.ID] = r, leader
	return true
}

func (p *plain) votes(r api.Region, store int) bool {
	peer, there := region.On(r, store)
	return there && !peer.Learner
}

func (p *plain) find(k []byte) (api.Region, int, bool) {
	for id, r := range p.regions {
		if region.Covers(r, k) {
			return r, p.leaders[id], true
		}
	}
	return api.Region{}, 0, false
}

func (p *plain) lead(id uint64, store int) bool {
	r, there := p.regions[id]
	if !there || !p.votes(r, store) {
		return false
	}
	p.leaders[id] = store
	return true
}

func (p *plain) next(id uint64) int {
	r, there := p.regions[id]
	if !there {
		return 0
	}
	twice := append(slices.Clone(r.Peers), r.Peers...)
	met := p.leaders[id] == 0
	for _, peer := range twice {
		if met && !peer.Learner {
			p.leaders[id] = peer.Store
			return peer.Store
		}
		met = met || peer.Store == p.leaders[id]
	}
	return -1
}

func (p *plain) drop(id uint64) bool {
	_, there := p.regions[id]
	delete(p.regions, id)
	delete(p.leaders, id)
	return there
}

func (p *plain) all() []api.Region {
	var l []api.Region
	for _, r := range p.regions {
		l = append(l, r)
	}
	slices.SortFunc(l, func(a, b api.Region) int { return bytes.Compare(a.Start, b.Start) })
	return l
}

func (p *plain) group(l [][]byte) string {
	s := ""
	for i, k := range l {
		if i > 0 && bytes.Compare(l[i-1], k) >= 0 {
			return ""
		}
		r, _, there := p.find(k)
		if i == 0 || !there || !region.Covers(r, l[i-1]) {
			s += "|"
		}
		s += fmt.Sprintf("%q ", k)
	}
	return s
}

func groups(pieces [][][]byte) string {
	s := ""
	for _, piece := range pieces {
		s += "|"
		for _, k := range piece {
			s += fmt.Sprintf("%q ", k)
		}
	}
	return s
}

// anyRegion is one of few numbers, keys, epochs and peers; now and then it is none.
func anyRegion(r *rand.Rand) api.Region {
	x := api.Region{ID: r.Uint64N(7), Start: anyKey(r), End: anyKey(r), Epoch: api.Epoch{Conf: r.Uint64N(4), Version: r.Uint64N(4)}}
	for id := range uint64(1 + r.IntN(4)) {
		x.Peers = append(x.Peers, api.Peer{ID: id + 1, Store: int(id) + r.IntN(2), Learner: r.IntN(4) == 0})
	}
	return x
}

func anyKey(r *rand.Rand) []byte {
	var k []byte
	for range r.IntN(3) {
		k = append(k, "abcd"[r.IntN(4)])
	}
	return k
}

func anyKeys(r *rand.Rand) [][]byte {
	var l [][]byte
	for range r.IntN(8) {
		l = append(l, anyKey(r))
	}
	if r.IntN(6) > 0 {
		slices.SortFunc(l, bytes.Compare)
		l = slices.CompactFunc(l, bytes.Equal)
	}
	return l
}

// step does one call at both, and says what they answered.
func step(r *rand.Rand, c *Cache, p *plain) (string, any, any) {
	id, store := r.Uint64N(7), r.IntN(6)-1
	switch r.IntN(8) {
	case 0:
		return fmt.Sprint("Lead ", id, store), c.Lead(id, store), p.lead(id, store)
	case 1:
		return fmt.Sprint("Next ", id), c.Next(id), p.next(id)
	case 2:
		if r.IntN(4) > 0 {
			return "nothing", nil, nil
		}
		return fmt.Sprint("Drop ", id), c.Drop(id), p.drop(id)
	case 3:
		l := anyKeys(r)
		return fmt.Sprintf("Group %q", l), groups(c.Group(l)), p.group(l)
	}
	x := anyRegion(r)
	return fmt.Sprint("Put ", told(x), " ", store), c.Put(clone(x), store), p.put(x, store)
}

func TestAsPlain(t *testing.T) { // P19.1 to P19.4: calls in any order, against the plain one
	for seed := range uint64(300) {
		r := rand.New(rand.NewPCG(seed, 19))
		c, p := New(), &plain{map[uint64]api.Region{}, map[uint64]int{}}
		for range 200 {
			what, got, is := step(r, c, p)
			if got != is {
				t.Fatalf("seed %d: %s: %v; want %v", seed, what, got, is)
			}
			k := anyKey(r)
			found, leader, there := c.Find(k)
			wasFound, wasLeader, wasThere := p.find(k)
			if told(found) != told(wasFound) || leader != wasLeader || there != wasThere {
				t.Fatalf("seed %d: %s, then Find(%q): %s %d; want %s %d", seed, what, k, told(found), leader, told(wasFound), wasLeader)
			}
			if got, is := fmt.Sprint(c.All()), fmt.Sprint(p.all()); len(c.All()) > 0 && tell(c.All()) != tell(p.all()) || len(c.All()) != len(p.all()) {
				t.Fatalf("seed %d: %s, then All: %s; want %s", seed, what, got, is)
			}
		}
	}
}

func tell(l []api.Region) string {
	s := ""
	for _, r := range l {
		s += told(r) + "\n"
	}
	return s
}

func TestNeverOverlap(t *testing.T) { // P19.4
	r := rand.New(rand.NewPCG(4, 19))
	c := New()
	for i := range 20000 {
		was := c.All()
		x := anyRegion(r)
		done := c.Put(x, r.IntN(5))
		now := c.All()
		for j, a := range now {
			for _, b := range now[:j] {
				if a.ID == b.ID || region.Overlap(a, b) || bytes.Compare(a.Start, b.Start) <= 0 {
					t.Fatalf("step %d: %s and %s are remembered", i, told(b), told(a))
				}
			}
			if k := slices.IndexFunc(was, func(o api.Region) bool { return o.ID == a.ID }); k >= 0 && region.Newer(was[k].Epoch, a.Epoch) {
				t.Fatalf("step %d: %s came in the place of %s", i, told(a), told(was[k]))
			}
		}
		if done && r.IntN(10) == 0 {
			c.Drop(x.ID)
		}
	}
}

func TestSplitAndMerged(t *testing.T) { // what comes of a region takes its place
	whole := of("2 - - 1/1")
	low, high, _ := region.Split(whole, key("m"), 7, []uint64{4, 5, 6, 7})
	c := New()
	wantIs(t, "Put of the whole", c.Put(whole, 2), true)
	wantIs(t, "Put of the right half", c.Put(high, 3), true)
	wantAll(t, c, 7) // of the left half nothing is known yet
	wantIs(t, "Put of the whole, late", c.Put(whole, 2), false)
	wantIs(t, "Put of the left half", c.Put(low, 0), true)
	wantGroup(t, c, "a l m z", "a l | m z")
	merged, _ := region.Merge(low, high)
	wantIs(t, "Put of what was merged", c.Put(merged, 1), true)
	wantAll(t, c, 2)
	wantIs(t, "Put of a half, late", c.Put(high, 3), false)
	wantFind(t, c, "z", "2=1")
}

func TestTwoCaches(t *testing.T) { // R4: they have nothing in common
	a, b := with(t, "2 - - 1/1=1"), New()
	wantAll(t, b)
	put(t, b, "3 - - 0/0=2", true)
	wantFind(t, a, "x", "2=1")
}
