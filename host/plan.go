package host

import (
	"maps"
	"slices"

	"regatta/api"
	"regatta/letter"
	"regatta/region"
	"regatta/sched"
)

const (
	aliveFor  = 12 // ticks of the placement driver's clock: a store that was heard of within them is alive
	lookFirst = 24 // ticks for which a new leader lets all tell it of themselves
)

// errand is an order that was given, and is not known to be done.
type errand struct {
	order api.Order
	epoch api.Epoch // of its region, when it was given
	steps []int     // how many members, and how many that vote, there are when it is done
	until uint64
}

// plan gives the orders that the policy asks for.
func (h *Host) plan(p *peer) {
	o := p.office
	if h.setup.Policy.Replicas < 1 || h.ticks-o.begun < lookFirst {
		return
	}
	regions := p.driver.Regions()
	h.settleErrands(p, regions)
	views := h.regionViews(p, regions)
	for _, x := range sched.Decide(h.setup.Policy, h.storeViews(p), views) {
		// Leaders are counted as they are told: all regions of one store might be led to the same other one, and back.
		if x.Kind == api.OrderLeader && o.isHanding() {
			continue
		}
		i := slices.IndexFunc(regions, func(r api.Region) bool { return r.ID == x.Region })
		e := errand{x, regions[i].Epoch, sched.Steps(x, regions[i]), h.ticks + giveUp}
		o.errands[x.Region] = e
		h.send(o.sights[x.Region].store, letter.Part{Kind: letter.Order, Order: x, Epoch: e.epoch})
	}
}

// isHanding: is a leader on its way to another store?
func (o *office) isHanding() bool {
	for _, e := range o.errands {
		if e.order.Kind == api.OrderLeader {
			return true
		}
	}
	return false
}

// storeViews: of the stores that were heard of.
func (h *Host) storeViews(p *peer) []api.StoreView {
	var l []api.StoreView
	alive := p.driver.Stores(aliveFor)
	for _, store := range p.driver.Stores(p.driver.Clock() + 1) {
		l = append(l, api.StoreView{Store: store, Alive: slices.Contains(alive, store)})
	}
	return l
}

// regionViews: of the known regions. One of which its leader has not told the newest is busy: nobody could be sent there.
func (h *Host) regionViews(p *peer, regions []api.Region) []api.RegionView {
	busy := map[uint64]struct{}{}
	for _, e := range p.office.errands {
		busy[e.order.Region] = struct{}{}
		if e.order.Kind == api.OrderMerge {
			busy[e.order.Other] = struct{}{}
		}
	}
	for _, id := range p.driver.Open() {
		source, target, _ := p.driver.Merge(id)
		busy[source.ID], busy[target.ID] = struct{}{}, struct{}{}
	}
	var l []api.RegionView
	for _, r := range regions {
		s := p.office.sights[r.ID]
		_, is := busy[r.ID]
		l = append(l, api.RegionView{Region: r, Leader: s.store, Size: s.size, Busy: is || s.epoch != r.Epoch})
	}
	return l
}

// settleErrands: what is done, or takes too long, is no errand any more.
func (h *Host) settleErrands(p *peer, regions []api.Region) {
	o := p.office
	for _, id := range slices.Sorted(maps.Keys(o.errands)) {
		if h.ticks >= o.errands[id].until || o.isDone(o.errands[id], regions) {
			delete(o.errands, id)
		}
	}
}

func (o *office) isDone(e errand, regions []api.Region) bool {
	i := slices.IndexFunc(regions, func(r api.Region) bool { return r.ID == e.order.Region })
	if i < 0 {
		return true
	}
	r := regions[i]
	switch e.order.Kind {
	case api.OrderSplit, api.OrderMerge:
		return r.Epoch.Version != e.epoch.Version
	case api.OrderLeader:
		return o.sights[r.ID].store == e.order.Store
	}
	_, there := region.On(r, e.order.Store)
	isThere := there == (e.order.Kind != api.OrderRemove)
	return isThere && slices.Equal(sched.Steps(api.Order{}, r), e.steps)
}
