package sched

import (
	"slices"

	"regatta/api"
	"regatta/region"
)

// gap is how far two loads, or two counts of leaders, are apart at which something is moved: of a lesser one a move would only change the sides.
const gap = 2

// rule: the order that it has for a region; false, if it does not apply.
type rule func(r api.RegionView) (api.Order, bool)

// rules: the first one that applies counts.
func (x *plan) rules() []rule {
	return []rule{x.promote, x.add, x.remove, x.split, x.merge, x.balance, x.lead}
}

func none() (api.Order, bool) { return api.Order{}, false }

// promote: a learner on a live store is to vote.
func (x *plan) promote(r api.RegionView) (api.Order, bool) {
	if x.voting(r) > x.replicas {
		return none()
	}
	p, there := first(only(r.Region.Peers, x.lives, learns), older)
	return api.Order{Kind: api.OrderPromote, Region: r.Region.ID, Store: p.Store, Peer: p.ID}, there
}

// add: a replica is lacking.
func (x *plan) add(r api.RegionView) (api.Order, bool) {
	if len(only(r.Region.Peers, x.lives)) >= x.replicas {
		return none()
	}
	return x.grow(r)
}

// grow: a peer more on the live store that has the least load of those without one.
func (x *plan) grow(r api.RegionView) (api.Order, bool) {
	p, there := first(x.free(r), x.emptier)
	return api.Order{Kind: api.OrderAdd, Region: r.Region.ID, Store: p.Store}, there
}

// remove: a replica is one too many, or what a lost store held is made up for.
func (x *plan) remove(r api.RegionView) (api.Order, bool) {
	voting := x.voting(r)
	p, there := first(only(r.Region.Peers, x.lost), older)
	if voting < x.replicas || voting == x.replicas && !there {
		return none()
	}
	if !there {
		p, there = first(only(r.Region.Peers, votes), x.fuller)
	}
	return api.Order{Kind: api.OrderRemove, Region: r.Region.ID, Store: p.Store, Peer: p.ID}, there
}

// split: the region is great.
func (x *plan) split(r api.RegionView) (api.Order, bool) {
	return api.Order{Kind: api.OrderSplit, Region: r.Region.ID}, x.policy.Split > 0 && r.Size >= x.policy.Split
}

// merge: the region is small, and so is the one behind it.
func (x *plan) merge(r api.RegionView) (api.Order, bool) {
	next, there := x.behind(r)
	if !there || next.Busy || x.isNamed(next) || !x.small(r) || !x.small(next) {
		return none()
	}
	_, e := region.Merge(next.Region, r.Region)
	return api.Order{Kind: api.OrderMerge, Region: r.Region.ID, Other: next.Region.ID}, e == api.OK
}

// balance: a peer is to be on a store with less load; one too many is then removed where there is the most.
func (x *plan) balance(r api.RegionView) (api.Order, bool) {
	o, there := x.grow(r)
	full, _ := first(only(r.Region.Peers, votes), x.fuller)
	return o, there && x.load[o.Store]+gap <= x.load[full.Store]
}

// lead: another store is to lead, which leads less.
func (x *plan) lead(r api.RegionView) (api.Order, bool) {
	p, there := first(only(r.Region.Peers, x.lives, votes), x.idler)
	return api.Order{Kind: api.OrderLeader, Region: r.Region.ID, Store: p.Store}, there && x.leads[p.Store]+gap <= x.leads[r.Leader]
}

// voting: how many of its peers vote on live stores.
func (x *plan) voting(r api.RegionView) int { return len(only(r.Region.Peers, x.lives, votes)) }

// lives: is the peer's store alive? One that is not told is not.
func (x *plan) lives(p api.Peer) bool {
	return slices.Contains(x.stores, api.StoreView{Store: p.Store, Alive: true})
}

func (x *plan) lost(p api.Peer) bool { return !x.lives(p) }

// free: the peers that it could have besides, one on each live store without one.
func (x *plan) free(r api.RegionView) []api.Peer {
	var l []api.Peer
	for _, s := range x.stores {
		if _, has := region.On(r.Region, s.Store); s.Alive && !has {
			l = append(l, api.Peer{Store: s.Store})
		}
	}
	return l
}

func (x *plan) small(r api.RegionView) bool {
	return x.policy.Merge > 0 && r.Size <= x.policy.Merge
}

// behind: the region that begins where this one ends. An End without a byte is no place.
func (x *plan) behind(r api.RegionView) (api.RegionView, bool) {
	i, there := x.starts[string(r.Region.End)]
	if !there || len(r.Region.End) == 0 {
		return api.RegionView{}, false
	}
	return x.regions[i], true
}
