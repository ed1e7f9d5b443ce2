package host

import (
	"maps"
	"slices"

	"regatta/api"
	"regatta/letter"
	"regatta/pd"
	"regatta/region"
	"regatta/tso"
)

const (
	tellEach   = 8  // ticks behind which the placement driver is told anew of what there is
	governEach = 4  // ticks behind which its leader does what it does by the clock
	openFor    = 40 // ticks for which a merge may be open
	maxChoked  = 64 // entries that are not decided: no more are proposed by the clock then
)

// driverPart is what the placement driver's leader has.
type driverPart struct {
	oracle  *tso.Oracle
	hungry  []func(ts uint64) // who waits for a timestamp
	widens  bool              // a wider window is proposed
	next    uint64            // the tick at which the clock goes on
	sights  map[uint64]sight  // by region
	errands map[uint64]errand // by region
	opened  map[uint64]uint64 // by merge: the tick at which it was first seen to be open
	grants  map[uint64]uint64 // by number: the tick at which it was given to a region that is to be split off
}

// sight is what was last told of a region by who leads it.
type sight struct {
	epoch api.Epoch
	term  uint64
	store int
	size  int
}

func newDriverPart(tick uint64) driverPart {
	return driverPart{next: tick + governEach, sights: map[uint64]sight{}, errands: map[uint64]errand{}, opened: map[uint64]uint64{}, grants: map[uint64]uint64{}}
}

// report is what a region's leader told last, and when.
type report struct {
	epoch api.Epoch
	tick  uint64
}

// tell tells the placement driver of the region, when that is new or some time ago.
func (h *Host) tell(p *peer) {
	r, t := p.state.Region(), &p.office.reported
	if r.Epoch == t.epoch && h.ticks-t.tick < tellEach {
		return
	}
	*t = report{r.Epoch, h.ticks}
	h.toDriver(letter.Part{Kind: letter.Region, Region: r, Term: p.office.term, Size: p.state.Size()})
}

// driverLeader: the placement driver's peer here, if it leads; else nil.
func (h *Host) driverLeader() *peer {
	p := h.peers[driverGroup]
	if p == nil || p.office == nil {
		return nil
	}
	return p
}

// proposePd proposes a command to the placement driver's group.
func (h *Host) proposePd(p *peer, c api.PdCmd, then func(outcome)) {
	h.propose(p, pd.EncodeCmd(c), then)
}

func nothing(outcome) {}

// isChoked: is so much not decided that more would only gather?
func (p *peer) isChoked() bool {
	s := p.Status()
	return s.Last-s.Commit >= maxChoked
}

func (h *Host) onStore(from int, _ letter.Part) {
	if p := h.driverLeader(); p != nil && !p.isChoked() {
		h.proposePd(p, api.PdCmd{Kind: api.PdStore, Store: from}, nothing)
	}
}

// onRegion: a region is told by who leads it. What is known already needs no entry.
func (h *Host) onRegion(from int, x letter.Part) {
	p := h.driverLeader()
	if p == nil || p.isChoked() || region.Check(x.Region) != api.OK {
		return
	}
	id := x.Region.ID
	was := p.office.sights[id]
	if region.Newer(was.epoch, x.Region.Epoch) || was.term > x.Term {
		return
	}
	p.office.sights[id] = sight{x.Region.Epoch, x.Term, from, x.Size}
	if r, known := regionOf(p.driver, id); !known || region.Newer(x.Region.Epoch, r.Epoch) {
		h.proposePd(p, api.PdCmd{Kind: api.PdRegion, Region: x.Region}, nothing)
	}
}

// regionOf: the known region of that number.
func regionOf(d *pd.Driver, id uint64) (api.Region, bool) {
	l := d.Regions()
	i := slices.IndexFunc(l, func(r api.Region) bool { return r.ID == id })
	if i < 0 {
		return api.Region{}, false
	}
	return l[i], true
}

// onAskTime: somebody wants a timestamp.
func (h *Host) onAskTime(from int, x letter.Part) {
	p := h.driverLeader()
	if p == nil || p.office.isFull() {
		return
	}
	h.read(p, func(got outcome) {
		if !got.known {
			return
		}
		p.office.hungry = append(p.office.hungry, func(ts uint64) {
			h.send(from, letter.Part{Kind: letter.Reply, Tag: x.Tag, TS: ts})
		})
		h.feed(p)
	})
}

// feed gives timestamps to who waits for them, as far as the window goes.
func (h *Host) feed(p *peer) {
	o := p.office
	if o.oracle == nil {
		if p.applied < o.first {
			return
		}
		o.oracle = tso.New(p.driver.Limit())
	}
	for len(o.hungry) > 0 {
		ts, code := o.oracle.Take(1)
		if code != api.OK {
			h.widen(p)
			return
		}
		then := o.hungry[0]
		o.hungry = o.hungry[1:]
		then(ts)
	}
}

// widen: the window is granted when the group knows of it.
func (h *Host) widen(p *peer) {
	o := p.office
	limit, ok := o.oracle.Want(1)
	if !ok || o.widens {
		return
	}
	o.widens = true
	h.proposePd(p, api.PdCmd{Kind: api.PdWindow, TS: limit}, func(got outcome) {
		o.widens = false
		if got.known {
			o.oracle.Grant(got.pd.N)
			h.feed(p)
		}
	})
}

// onAskDriver: somebody wants a command done, and to know what came of it.
func (h *Host) onAskDriver(from int, x letter.Part) {
	p := h.driverLeader()
	if p == nil || p.office.isFull() {
		return
	}
	answer := func(r api.PdResult) { h.send(from, letter.Part{Kind: letter.Reply, Tag: x.Tag, PdResult: r}) }
	c := x.Pd
	forSplit := c.Kind == api.PdID && c.Region.ID != 0
	switch c.Kind {
	case api.PdID:
		if forSplit && h.isCrowded(p) {
			answer(api.PdResult{Err: api.ErrFull})
			return
		}
		c.Region = api.Region{}
	case api.PdMerge:
		// Who asks knows the source; the target is as it is known here.
		r, known := regionOf(p.driver, c.Other.ID)
		if !known {
			answer(api.PdResult{Err: api.ErrArg})
			return
		}
		c.Other = r
	case api.PdRegister, api.PdRelease, api.PdSafe, api.PdDecide:
	default:
		return
	}
	h.proposePd(p, c, func(got outcome) {
		if !got.known {
			return // it is asked again
		}
		if forSplit && got.pd.Err == api.OK {
			p.office.grants[got.pd.N] = h.ticks
		}
		if got.pd.Err == api.OK && (c.Kind == api.PdMerge || c.Kind == api.PdDecide) {
			h.proclaim(p, c.N)
		}
		answer(got.pd)
	})
}

// isCrowded: are there as many regions as there may be, with those that are about to be split off?
func (h *Host) isCrowded(p *peer) bool {
	p.office.forget(p.driver, h.ticks)
	return len(p.driver.Regions())+len(p.office.grants) >= api.MaxRegions
}

// onAskRegion: a client wants to know which region holds a key.
func (h *Host) onAskRegion(from int, x letter.Part) {
	p := h.driverLeader()
	if p == nil {
		return
	}
	a := letter.Part{Kind: letter.Reply, Tag: x.Tag, PdResult: api.PdResult{Err: api.ErrMiss}}
	if r, known := p.driver.Region(x.Key); known {
		a.Region, a.PdResult.Err = r, api.OK
		a.Leader = p.office.sights[r.ID].store
	}
	h.send(from, a)
}

// merging tells how a merge stands.
func merging(d *pd.Driver, id uint64) letter.Part {
	source, target, status := d.Merge(id)
	return letter.Part{Kind: letter.Merge, N: id, Region: source, Other: target, Status: status, Swallowed: d.Swallowed(source.ID)}
}

func (h *Host) onAskMerge(from int, x letter.Part) {
	p := h.driverLeader()
	if p == nil {
		return
	}
	if a := merging(p.driver, x.N); a.Status != api.MergeNone {
		h.send(from, a)
	}
}

// proclaim tells all stores of a merge's two regions how it stands.
func (h *Host) proclaim(p *peer, id uint64) {
	x := merging(p.driver, id)
	for _, store := range sides(x.Region, x.Other) {
		h.send(store, x)
	}
}

// govern does what the leader does by the clock.
func (h *Host) govern(p *peer) {
	o := p.office
	if h.ticks < o.next {
		return
	}
	o.next = h.ticks + governEach
	o.forget(p.driver, h.ticks)
	h.feed(p)
	if p.isChoked() {
		return
	}
	h.proposePd(p, api.PdCmd{Kind: api.PdClock}, nothing)
	h.urge(p)
	h.plan(p)
}

// forget what was told of regions that are known no more, and what was given long ago.
func (o *office) forget(d *pd.Driver, tick uint64) {
	known := map[uint64]struct{}{}
	for _, r := range d.Regions() {
		known[r.ID] = struct{}{}
	}
	maps.DeleteFunc(o.sights, func(id uint64, _ sight) bool {
		_, is := known[id]
		return !is
	})
	maps.DeleteFunc(o.grants, func(id, since uint64) bool {
		_, is := known[id]
		return is || tick-since >= giveUp
	})
}

// urge tells of the merges that are open, and gives up those that are so for long.
func (h *Host) urge(p *peer) {
	o := p.office
	seen := map[uint64]uint64{}
	for _, id := range p.driver.Open() {
		since, known := o.opened[id]
		if !known {
			since = h.ticks
		}
		seen[id] = since
		if h.ticks-since < openFor {
			h.proclaim(p, id)
			continue
		}
		h.proposePd(p, api.PdCmd{Kind: api.PdDecide, N: id}, func(got outcome) {
			if got.known {
				h.proclaim(p, id)
			}
		})
	}
	o.opened = seen
}
