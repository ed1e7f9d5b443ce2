package sched

import (
	"cmp"
	"container/heap"

	"regatta/api"
)

// queue is a heap of peers: at its top is the one that its order puts ahead of all others.
type queue struct {
	peers []api.Peer
	ahead func(a, b api.Peer) bool
}

// first: of the peers the one that is ahead of all others; false, if there is none.
func first(l []api.Peer, ahead func(a, b api.Peer) bool) (api.Peer, bool) {
	q := &queue{ahead: ahead}
	for _, p := range l {
		heap.Push(q, p)
	}
	if q.Len() == 0 {
		return api.Peer{}, false
	}
	return heap.Pop(q).(api.Peer), true
}

func (q *queue) Len() int { return len(q.peers) }

func (q *queue) Less(i, j int) bool { return q.ahead(q.peers[i], q.peers[j]) }

func (q *queue) Swap(i, j int) { q.peers[i], q.peers[j] = q.peers[j], q.peers[i] }

func (q *queue) Push(x any) { q.peers = append(q.peers, x.(api.Peer)) }

func (q *queue) Pop() any {
	last := len(q.peers) - 1
	p := q.peers[last]
	q.peers = q.peers[:last]
	return p
}

// older: has a the lesser number?
func older(a, b api.Peer) bool { return a.ID < b.ID }

// emptier: has a's store the lesser load, or of one load the lesser number?
func (x *plan) emptier(a, b api.Peer) bool { return less(x.load, a, b) }

// fuller: has a's store the greater load, or of one load the greater number?
func (x *plan) fuller(a, b api.Peer) bool { return less(x.load, b, a) }

// idler: does a's store lead fewer regions, or as many and has the lesser number?
func (x *plan) idler(a, b api.Peer) bool { return less(x.leads, a, b) }

func less(counts map[int]int, a, b api.Peer) bool {
	return cmp.Or(cmp.Compare(counts[a.Store], counts[b.Store]), cmp.Compare(a.Store, b.Store)) < 0
}

// only: those of the peers that are all that is asked.
func only(l []api.Peer, are ...func(api.Peer) bool) []api.Peer {
	var out []api.Peer
	for _, p := range l {
		if isAll(p, are) {
			out = append(out, p)
		}
	}
	return out
}

func isAll(p api.Peer, are []func(api.Peer) bool) bool {
	for _, is := range are {
		if !is(p) {
			return false
		}
	}
	return true
}

func votes(p api.Peer) bool { return !p.Learner }

func learns(p api.Peer) bool { return p.Learner }
