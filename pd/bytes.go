package pd

import (
	"bytes"
	"cmp"
	"container/heap"
	"maps"
	"slices"

	"regatta/api"
	"regatta/row"
)

// far is a clock to which no driver comes: it goes on one by one.
const far = 1 << 62

// whole is a driver as plain data. Its lists rise, so that drivers that are the same are the same here.
type whole struct {
	given, limit, clock, safe uint64
	heard                     []sight // by store
	regions                   []api.Region
	registered                []entry // by timestamp
	merges                    []merge // by number
}

// sight is when a store was heard of.
type sight struct {
	store int
	clock uint64
}

// Export: bytes that say all of it.
func (p *Driver) Export() []byte {
	x := whole{given: p.given, limit: p.limit, clock: p.clock, safe: p.safe, regions: p.regions}
	for _, store := range slices.Sorted(maps.Keys(p.heard)) {
		x.heard = append(x.heard, sight{store, p.heard[store]})
	}
	x.registered = slices.SortedFunc(slices.Values(p.registered), func(a, b entry) int { return cmp.Compare(a.ts, b.ts) })
	for _, id := range slices.Sorted(maps.Keys(p.merges)) {
		x.merges = append(x.merges, p.merges[id])
	}
	return row.Write(x, wholeParts)
}

// Import: the driver whose Export b is.
func Import(b []byte) (*Driver, api.Errno) {
	x, ok := row.Read(b, wholeParts)
	if !ok || x.clock >= far {
		return nil, api.ErrForm
	}
	p := New(0)
	p.given, p.limit, p.clock, p.safe = x.given, x.limit, x.clock, x.safe
	ok = p.takeHeard(x.heard) && p.takeRegions(x.regions) && p.takeRegistered(x.registered) && p.takeMerges(x.merges)
	// What stands there twice, or in another order, is not told so.
	if !ok || !bytes.Equal(p.Export(), b) {
		return nil, api.ErrForm
	}
	return p, api.OK
}

func (p *Driver) takeHeard(l []sight) bool {
	for _, s := range l {
		if !isStore(s.store) || s.clock > p.clock {
			return false
		}
		p.heard[s.store] = s.clock
	}
	return true
}

func (p *Driver) takeRegions(l []api.Region) bool {
	for _, r := range l {
		if p.learn(api.PdCmd{Region: r}).Err != api.OK {
			return false
		}
	}
	return true
}

func (p *Driver) takeRegistered(l []entry) bool {
	if len(l) > maxRegistered {
		return false
	}
	for _, x := range l {
		// Who ends at this clock was registered at an earlier one: at the clock 0 nobody was.
		early := x.until < max(p.clock, 1)
		if x.ts <= p.safe || early || x.until-p.clock > api.MaxTTL || p.registered.find(x.ts) >= 0 {
			return false
		}
		heap.Push(&p.registered, x)
	}
	return true
}

// takeMerges takes those that are open (the least status) last, as they may have regions of decided ones.
func (p *Driver) takeMerges(l []merge) bool {
	openLast := func(a, b merge) int { return cmp.Compare(b.status, a.status) }
	for _, m := range slices.SortedFunc(slices.Values(l), openLast) {
		if p.open(api.PdCmd{N: m.id, Region: m.source, Other: m.target}).Err != api.OK {
			return false
		}
		if m.status != api.MergeOpen {
			p.decide(api.PdCmd{N: m.id, Commit: m.status == api.MergeCommit})
		}
	}
	return true
}

// EncodeCmd: bytes that say all of a command, whatever its kind.
func EncodeCmd(c api.PdCmd) []byte { return row.Write(c, cmdParts) }

// DecodeCmd: the command whose EncodeCmd b is.
func DecodeCmd(b []byte) (api.PdCmd, api.Errno) {
	c, ok := row.Read(b, cmdParts)
	if !ok {
		return api.PdCmd{}, api.ErrForm
	}
	return c, api.OK
}

func wholeParts(w *row.Walk, x *whole) {
	w.Numbers(&x.given, &x.limit, &x.clock, &x.safe)
	row.List(w, &x.heard, sightParts)
	row.List(w, &x.regions, (*row.Walk).Region)
	row.List(w, &x.registered, entryParts)
	row.List(w, &x.merges, mergeParts)
}

func sightParts(w *row.Walk, s *sight) {
	w.Count(&s.store)
	w.Number(&s.clock)
}

func entryParts(w *row.Walk, x *entry) { w.Numbers(&x.ts, &x.until) }

func mergeParts(w *row.Walk, m *merge) {
	w.Number(&m.id)
	w.Region(&m.source)
	w.Region(&m.target)
	w.Count(&m.status)
}

func cmdParts(w *row.Walk, c *api.PdCmd) {
	w.Count(&c.Kind)
	w.Numbers(&c.N, &c.TS, &c.TTL)
	w.Count(&c.Store)
	w.Region(&c.Region)
	w.Region(&c.Other)
	w.Yes(&c.Commit)
}
