package pd

import (
	"cmp"
	"container/heap"
	"slices"

	"regatta/api"
)

// maxRegistered is how many transactions are registered at most.
const maxRegistered = 256

// entry is a transaction that is registered, and the last clock at which it is.
type entry struct {
	ts, until uint64
}

// register: while the transaction is registered the safepoint stays below it.
func (p *Driver) register(c api.PdCmd) api.PdResult {
	if c.TS == 0 || c.TTL < 1 || c.TTL > api.MaxTTL {
		return refused(api.ErrArg)
	}
	if c.TS <= p.safe {
		return refused(api.ErrTooOld)
	}
	until := p.clock + c.TTL
	i := p.registered.find(c.TS)
	switch {
	case i >= 0:
		p.registered[i].until = max(p.registered[i].until, until)
		heap.Fix(&p.registered, i)
	case len(p.registered) >= maxRegistered:
		return refused(api.ErrFull)
	default:
		heap.Push(&p.registered, entry{c.TS, until})
	}
	return api.PdResult{}
}

// release: the transaction is not registered.
func (p *Driver) release(c api.PdCmd) api.PdResult {
	if i := p.registered.find(c.TS); i >= 0 {
		heap.Remove(&p.registered, i)
	}
	return api.PdResult{}
}

// expire: those go whose time has come.
func (p *Driver) expire() {
	for len(p.registered) > 0 && p.registered[0].until < p.clock {
		heap.Pop(&p.registered)
	}
}

// raise: the safepoint comes as near to TS as the registered ones let it.
func (p *Driver) raise(c api.PdCmd) api.PdResult {
	least := c.TS
	for _, x := range p.registered {
		least = min(least, x.ts-1)
	}
	p.safe = max(p.safe, least)
	return api.PdResult{N: p.safe}
}

// Registered: the transactions that are, rising.
func (p *Driver) Registered() []uint64 {
	var l []uint64
	for _, x := range p.registered {
		l = append(l, x.ts)
	}
	slices.Sort(l)
	return l
}

// byEnd is a heap: at its top is the one that ends first. No transaction is in it twice.
type byEnd []entry

// find: the place of the transaction; -1, if it is not there.
func (h byEnd) find(ts uint64) int {
	return slices.IndexFunc(h, func(x entry) bool { return x.ts == ts })
}

func (h byEnd) Len() int { return len(h) }

func (h byEnd) Less(i, j int) bool {
	return cmp.Or(cmp.Compare(h[i].until, h[j].until), cmp.Compare(h[i].ts, h[j].ts)) < 0
}

func (h byEnd) Swap(i, j int) { h[i], h[j] = h[j], h[i] }

func (h *byEnd) Push(x any) { *h = append(*h, x.(entry)) }

func (h *byEnd) Pop() any {
	last := len(*h) - 1
	x := (*h)[last]
	*h = (*h)[:last]
	return x
}
