package vault

import (
	"fmt"
	"maps"
	"math/rand/v2"
	"slices"
	"strings"
	"testing"

	"regatta/api"
	"regatta/disk"
	"regatta/engine"
)

// plain is what a store keeps, told in the plainest way. What the engine holds is held against it.
type plain struct {
	saved  map[uint64]api.Saved
	buried map[uint64]uint64
}

func (p plain) copy() plain { return plain{maps.Clone(p.saved), maps.Clone(p.buried)} }

// alike: is all in the engine as it is here?
func (p plain) alike(t *testing.T, e *engine.Engine) bool {
	t.Helper()
	groups, code := Groups(e)
	want(t, "Groups", code, api.OK)
	if !slices.Equal(groups, slices.Sorted(maps.Keys(p.saved))) {
		return false
	}
	for _, group := range few {
		s, there, code := Load(e, group)
		want(t, "Load", code, api.OK)
		peer, code := Buried(e, group)
		want(t, "Buried", code, api.OK)
		has, had := p.saved[group]
		if there != had || textSaved(s) != textSaved(has) || peer != p.buried[group] {
			return false
		}
	}
	return true
}

var few = []uint64{0, 6, 7, 255, 256, greatest}

// anyReady is one that a peer with what is kept may tell.
func anyReady(r *rand.Rand, s api.Saved) api.Ready {
	out := api.Ready{New: true, Hard: hard(s.Hard.Term+uint64(r.IntN(2)), uint64(r.IntN(4)), uint64(r.IntN(9)))}
	first, last := s.Snap.Index+1, s.Snap.Index+uint64(len(s.Entries))
	if r.IntN(3) == 0 {
		out.Snap = snap(first+uint64(r.IntN(4)), out.Hard.Term, "1 2||3", strings.Repeat("s", r.IntN(9)*r.IntN(9)*r.IntN(9)))
		out.Emptied = r.IntN(2) == 0 || out.Snap.Index > last
		first = out.Snap.Index + 1
		if out.Emptied {
			last = out.Snap.Index
		}
	}
	if r.IntN(3) > 0 {
		from := first + uint64(r.IntN(int(last-first)+2))
		out.Entries = entries(from, strings.Repeat(fmt.Sprintf("%d %[1]d=%s %[1]d(1,2|1) ", out.Hard.Term, strings.Repeat("e", r.IntN(40))), r.IntN(3)))
	}
	return out
}

// anyBatch: one step of a group or of two, and the store behind it.
func (p plain) anyBatch(r *rand.Rand) ([]api.Op, plain) {
	var batch []api.Op
	out := p.copy()
	for range 1 + r.IntN(2) {
		group := few[r.IntN(len(few))]
		switch r.IntN(12) {
		case 0:
			batch = append(batch, Drop(group)...)
			delete(out.saved, group)
		case 1:
			peer := uint64(r.IntN(300))
			batch = append(batch, Bury(group, peer)...)
			out.buried[group] = max(out.buried[group], peer)
		default:
			x := anyReady(r, out.saved[group])
			batch = append(batch, Save(group, x)...)
			out.saved[group] = keep(out.saved[group], x)
		}
	}
	return batch, out
}

func anyKeep(r *rand.Rand) []int {
	var out []int
	for range r.IntN(4) {
		out = append(out, r.IntN(400)-2)
	}
	return out
}

// reopened: the disk crashes till an engine is there again.
func reopened(t *testing.T, r *rand.Rand, d *disk.Disk) *engine.Engine {
	t.Helper()
	for range 3 {
		d.Crash(anyKeep(r))
		d.Arm(r.IntN(12))
		if e, code := engine.Open(d); code == api.OK {
			d.Crash(nil) // nothing is armed any more, and nothing is lost by it
			return e
		}
	}
	d.Crash(anyKeep(r))
	return opened(t, d)
}

func TestAgainstThePlainStore(t *testing.T) { // P9.2 to P9.6
	died, done := 0, 0
	for run := range 150 {
		r := rand.New(rand.NewPCG(9, uint64(run)))
		d, p := disk.New(), plain{map[uint64]api.Saved{}, map[uint64]uint64{}}
		e := opened(t, d)
		for step := range 80 {
			if r.IntN(8) == 0 {
				d.Arm(r.IntN(6))
			}
			batch, next := p.anyBatch(r)
			if r.IntN(10) == 0 {
				batch, next = nil, p
				e.Flush()
			}
			if code := e.Write(batch); code == api.OK {
				p = next
			} else {
				died++
				want(t, "Write", code, api.ErrDead)
				lacks(t, "an engine that is over", e, 7, api.ErrDead)
				e = reopened(t, r, d)
				if next.alike(t, e) {
					done++
					p = next
				}
			}
			if !p.alike(t, e) {
				t.Fatalf("run %d, step %d: P9.5, P9.6: what is kept is none of what it may be", run, step)
			}
		}
	}
	if died < 300 || done < 50 || done > died-50 {
		t.Errorf("of %d batches that met a dying disk %d were done: the disk is armed badly", died, done)
	}
}

func TestEveryCrash(t *testing.T) { // P9.6: a disk that dies at each of its calls, and keeps each beginning of what was not synced
	was := keep(api.Saved{}, told(anything(7)))
	x := api.Ready{Hard: hard(9, 2, 5), Snap: snap(3, 1, "1 2 3", "new"), Entries: entries(4, "9=x 9=y")}
	ends := map[string]int{}
	for arm := range 4 {
		for kept := range 300 {
			d := disk.New()
			e := opened(t, d)
			write(t, e, Save(7, told(anything(7))))
			d.Arm(arm)
			code := e.Write(Save(7, x))
			d.Crash([]int{kept})
			e = opened(t, d)
			s, there, loaded := Load(e, 7)
			if !there || loaded != api.OK {
				t.Fatalf("Load behind a crash: %t, error %d", there, loaded)
			}
			switch textSaved(s) {
			case textSaved(keep(was, x)):
				ends["done"]++
			case textSaved(was):
				ends["left out"]++
				if code == api.OK {
					t.Errorf("what was answered OK is not kept")
				}
			default:
				t.Fatalf("Load behind a crash: half of a step: %s", textSaved(s))
			}
		}
	}
	if ends["done"] < 100 || ends["left out"] < 100 {
		t.Errorf("%v: the disk is armed badly", ends)
	}
}
