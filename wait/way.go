package wait

import (
	"container/heap"
	"slices"
)

// Way: the shortest way from a to b, of those of one length the least; none, if there is no way.
func (g *Graph) Way(a, b uint64) []uint64 {
	h := ways{{a}}
	seen := map[uint64]struct{}{a: {}}
	for len(h) > 0 {
		w := h.take()
		last := w[len(w)-1]
		if last == b {
			return w
		}
		// One of those that go on may have w's spare room: so a long way is not copied at each number.
		room := cap(w)
		for _, e := range g.from(last) {
			// Ways come from the least on: the first one to a number is the least one to it.
			if _, was := seen[e[1]]; was {
				continue
			}
			seen[e[1]] = struct{}{}
			heap.Push(&h, append(w[:len(w):room], e[1]))
			room = len(w)
		}
	}
	return nil
}

// ways is a heap: at its top is the shortest way, of those of one length the least, number by number.
type ways [][]uint64

// take takes the way at the top out.
func (h *ways) take() []uint64 {
	w := (*h)[0]
	heap.Pop(h)
	return w
}

func (h ways) Len() int { return len(h) }

func (h ways) Less(i, j int) bool {
	if len(h[i]) != len(h[j]) {
		return len(h[i]) < len(h[j])
	}
	return slices.Compare(h[i], h[j]) < 0
}

func (h ways) Swap(i, j int) { h[i], h[j] = h[j], h[i] }

func (h *ways) Push(x any) { *h = append(*h, x.([]uint64)) }

func (h *ways) Pop() any {
	last := len(*h) - 1
	x := (*h)[last]
	*h = (*h)[:last]
	return x
}
