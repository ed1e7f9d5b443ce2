package table

import (
	"bytes"
	"container/heap"

	"regatta/api"
)

// Merge: all tables' pairs, rising by key; of one key that of the first table that has it.
func Merge(tables ...*Table) []api.Pair {
	var out []api.Pair
	for h := runsOf(tables); len(h) > 0; h.step() {
		p := h[0].left[0]
		// The first table's pair of a key was told first: those of the others are behind it.
		if len(out) == 0 || !bytes.Equal(out[len(out)-1].Key, p.Key) {
			out = append(out, copied(p))
		}
	}
	return out
}

// run is what is left of a table while it is merged, never nothing.
type run struct {
	left  []api.Pair
	table int // its place among the tables that are merged
}

// runs is a heap: at its top is the least key, of one key the first table.
type runs []run

func runsOf(tables []*Table) runs {
	var h runs
	for i, t := range tables {
		if t != nil && len(t.pairs) > 0 {
			heap.Push(&h, run{left: t.pairs, table: i})
		}
	}
	return h
}

// step: the pair at the top is done with.
func (h *runs) step() {
	top := &(*h)[0]
	if len(top.left) == 1 {
		heap.Pop(h)
		return
	}
	top.left = top.left[1:]
	heap.Fix(h, 0)
}

func (h runs) Len() int { return len(h) }

func (h runs) Less(i, j int) bool {
	order := bytes.Compare(h[i].left[0].Key, h[j].left[0].Key)
	return order < 0 || order == 0 && h[i].table < h[j].table
}

func (h runs) Swap(i, j int) { h[i], h[j] = h[j], h[i] }

func (h *runs) Push(x any) { *h = append(*h, x.(run)) }

func (h *runs) Pop() any {
	last := len(*h) - 1
	x := (*h)[last]
	*h = (*h)[:last]
	return x
}
