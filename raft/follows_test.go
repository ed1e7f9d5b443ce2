package raft

import (
	"testing"

	"regatta/api"
	"regatta/conf"
)

// groups are of many kinds: their clocks, their peers' numbers (unlike modulo election), and how many of them begin.
var groups = []struct {
	election, beat int
	ids            []uint64
	voters         int
}{
	{10, 2, []uint64{1, 2, 3}, 3}, {10, 2, []uint64{1, 2, 3, 4, 5, 6, 17}, 3}, {10, 9, []uint64{5, 9, 3, 22, 11}, 5}, {10, 1, []uint64{1, 2, 3, 4}, 4},
	{2, 1, []uint64{1, 2}, 2}, {3, 2, []uint64{1, 2, 3}, 2}, {4, 1, []uint64{1, 2, 3, 4}, 4}, {5, 1, []uint64{1, 2, 3, 4, 5}, 4}, {40, 7, []uint64{3, 41, 42}, 3},
	{9, 3, []uint64{9, 8, 7, 6, 5, 4, 3, 2, 1}, 9}, {9, 3, []uint64{9, 8, 7, 6, 5, 4, 3, 2, 1}, 1},
}

func TestAnyRun(t *testing.T) { // P8.14, P8.15, P8.16, and P8.9, P8.11, P8.13 on the way
	sum := map[string]int{}
	for seed := range uint64(6 * len(groups)) {
		g := groups[seed%uint64(len(groups))]
		w := newWorld(t, seed, g.election, g.beat, g.ids, g.voters)
		for range 6000 {
			w.any()
			if w.step%500 == 0 {
				w.wantMatching()
			}
		}
		w.wantCalm()
		w.wantMatching()
		for what, count := range w.counts {
			sum[what] += count
		}
	}
	for _, what := range []string{"leaders", "changes", "hands", "reads", "crashes", "compacted", "snapshots", "emptied"} {
		if sum[what] < 50 {
			t.Errorf("%d %s: what is done is chosen badly: %v", sum[what], what, sum)
		}
	}
}

func TestCalmFromTheBeginning(t *testing.T) { // P8.16
	for seed, g := range groups {
		w := newWorld(t, uint64(seed), g.election, g.beat, g.ids, g.voters)
		w.wantCalm()
		for range 5 {
			index, e := w.leader().Propose([]byte("more"))
			if e != api.OK {
				w.fail("P8.16: Propose: error %d", e)
			}
			w.calm(4 * w.beat)
			w.wantKnown(index)
		}
		if l := w.leader().Status(); l.Term != 2 {
			w.fail("P8.16: in a calm nobody stands again: %+v", l)
		}
	}
}

// wantCalm: in a calm one comes to lead for good, and what is proposed to it is known by all.
func (w *world) wantCalm() {
	w.t.Helper()
	w.deliver()
	w.calm(12 * w.election)
	l := w.leader()
	if l == nil {
		w.fail("P8.16: nobody leads behind %d rounds", 12*w.election)
	}
	index, e := l.Propose([]byte("calm"))
	if e != api.OK {
		w.fail("P8.16: Propose: error %d", e)
	}
	w.calm(4 * w.beat)
	w.wantKnown(index)
}

// wantKnown: all members of the leader's configuration know that the index is committed.
func (w *world) wantKnown(index uint64) {
	w.t.Helper()
	l := w.leader()
	if l == nil {
		w.fail("P8.16: nobody leads any more")
	}
	for _, id := range conf.Members(l.Status().Conf) {
		if s := w.peers[id].Status(); s.Commit < index {
			w.fail("P8.16: the peer %d does not know that %d is committed: %+v", id, index, s)
		}
	}
}
