package sched

import (
	"fmt"
	"math/rand/v2"
	"slices"
	"testing"

	"regatta/api"
	"regatta/region"
)

// model is Decide by the words of the chapter, in the plainest way: lists that are gone through, again and again.
type model struct {
	policy   api.Policy
	replicas int
	alive    map[int]bool
	regions  map[uint64]api.RegionView
	orders   []api.Order
}

func decideByWords(p api.Policy, stores []api.StoreView, regions []api.RegionView) []api.Order {
	m := &model{policy: p, alive: map[int]bool{}, regions: map[uint64]api.RegionView{}}
	for _, s := range stores {
		if _, told := m.alive[s.Store]; !told && s.Store >= 1 && s.Store <= 5 {
			m.alive[s.Store] = s.Alive
		}
	}
	m.replicas = p.Replicas
	if m.replicas > len(m.alive) {
		m.replicas = len(m.alive)
	}
	if m.replicas < 1 {
		m.replicas = 1
	}
	var ids []uint64
	for _, r := range regions {
		if _, told := m.regions[r.Region.ID]; !told && region.Check(r.Region) == api.OK {
			m.regions[r.Region.ID] = r
			ids = append(ids, r.Region.ID)
		}
	}
	slices.Sort(ids)
	for _, id := range ids {
		if r := m.regions[id]; !r.Busy && !m.isNamed(id) {
			if o := m.order(r); o.Kind != 0 {
				o.Region = id
				m.orders = append(m.orders, o)
			}
		}
	}
	return m.orders
}

func (m *model) isNamed(id uint64) bool {
	return slices.ContainsFunc(m.orders, func(o api.Order) bool { return o.Region == id || o.Other == id })
}

func (m *model) load(store int) int {
	n := 0
	for _, r := range m.regions {
		if _, has := region.On(r.Region, store); has {
			n++
		}
	}
	for _, o := range m.orders {
		if o.Store == store && o.Kind == api.OrderAdd {
			n++
		}
		if o.Store == store && o.Kind == api.OrderRemove {
			n--
		}
	}
	return n
}

func (m *model) leads(store int) int {
	n := 0
	for _, r := range m.regions {
		if r.Leader == store {
			n++
		}
	}
	return n
}

// order is the order for a region, whose number is not yet in it.
func (m *model) order(r api.RegionView) api.Order {
	members, voters, great := 0, 0, 0 // on live stores; of those that vote the store with the greatest load
	var learner, dead, fullest api.Peer
	for _, p := range r.Region.Peers { // they rise
		switch {
		case m.alive[p.Store] && p.Learner:
			members++
			if learner.ID == 0 {
				learner = p
			}
		case m.alive[p.Store]:
			members++
			voters++
		case dead.ID == 0:
			dead = p
		}
		if l := m.load(p.Store); !p.Learner && (l > great || l == great && p.Store > fullest.Store) {
			great, fullest = l, p
		}
	}
	place := 0
	for s := 5; s >= 1; s-- {
		if _, has := region.On(r.Region, s); m.alive[s] && !has && (place == 0 || m.load(s) <= m.load(place)) {
			place = s
		}
	}
	switch {
	case learner.ID != 0 && voters <= m.replicas:
		return api.Order{Kind: api.OrderPromote, Store: learner.Store, Peer: learner.ID}
	case members < m.replicas && place != 0:
		return api.Order{Kind: api.OrderAdd, Store: place}
	case voters >= m.replicas && dead.ID != 0:
		return api.Order{Kind: api.OrderRemove, Store: dead.Store, Peer: dead.ID}
	case voters > m.replicas:
		return api.Order{Kind: api.OrderRemove, Store: fullest.Store, Peer: fullest.ID}
	case m.policy.Split > 0 && r.Size >= m.policy.Split:
		return api.Order{Kind: api.OrderSplit}
	case m.neighbour(r) != 0:
		return api.Order{Kind: api.OrderMerge, Other: m.neighbour(r)}
	case place != 0 && m.load(place) <= great-2:
		return api.Order{Kind: api.OrderAdd, Store: place}
	}
	return m.leader(r)
}

// neighbour is the region into which this one is to be merged; 0: into none.
func (m *model) neighbour(r api.RegionView) uint64 {
	var next api.RegionView
	for id, n := range m.regions {
		if len(r.Region.End) > 0 && string(n.Region.Start) == string(r.Region.End) && (next.Region.ID == 0 || id < next.Region.ID) {
			next = n
		}
	}
	_, e := region.Merge(next.Region, r.Region)
	if e != api.OK || next.Busy || m.isNamed(next.Region.ID) || m.policy.Merge <= 0 || r.Size > m.policy.Merge || next.Size > m.policy.Merge {
		return 0
	}
	return next.Region.ID
}

func (m *model) leader(r api.RegionView) api.Order {
	if r.Leader < 1 {
		return api.Order{}
	}
	to := 0
	for s := 5; s >= 1; s-- {
		p, has := region.On(r.Region, s)
		if has && !p.Learner && m.alive[s] && m.leads(s)+2 <= m.leads(r.Leader) && (to == 0 || m.leads(s) <= m.leads(to)) {
			to = s
		}
	}
	if to == 0 {
		return api.Order{}
	}
	return api.Order{Kind: api.OrderLeader, Store: to}
}

// someRegion is a region of that range, mostly of a few stores; spoilt: it may be none.
func someRegion(r *rand.Rand, id uint64, start, end string, spoilt bool) api.RegionView {
	x := api.Region{ID: id, Start: []byte(start), End: []byte(end), Epoch: api.Epoch{Conf: 1, Version: 1 + r.Uint64N(3)}}
	for i, store := range r.Perm(5)[:1+r.IntN(4)] {
		x.Peers = append(x.Peers, api.Peer{ID: id*100 + uint64(i), Store: 1 + store, Learner: i > 0 && r.IntN(6) == 0})
	}
	if r.IntN(40) == 0 {
		x.Peers[len(x.Peers)-1].Store = 6 + r.IntN(3)
	}
	if spoilt {
		switch r.IntN(5) {
		case 0:
			x.ID = 0
		case 1:
			x.Peers = nil
		case 2:
			x.Start, x.End = []byte("k"), []byte("c")
		case 3:
			x.Peers[0].ID = 0
		case 4:
			x.Peers[0].Learner = true
		}
	}
	return api.RegionView{Region: x, Leader: r.IntN(5), Size: r.IntN(10) - 1, Busy: r.IntN(6) == 0}
}

// someViews are regions that cut the keys at a few letters, in any order of numbers; wild: with some that overlap, are told twice, or are none.
func someViews(r *rand.Rand, wild bool) []api.RegionView {
	n := 1 + r.IntN(8)
	ids := r.Perm(n + 3)
	at := func(i int) string {
		if i == 0 || i == n {
			return ""
		}
		return string(rune('a' + i))
	}
	var l []api.RegionView
	for i := range n {
		l = append(l, someRegion(r, uint64(1+ids[i]), at(i), at(i+1), wild && r.IntN(12) == 0))
	}
	for wild && r.IntN(2) == 0 {
		l = append(l, someRegion(r, uint64(1+r.IntN(n+3)), at(r.IntN(n)), at(1+r.IntN(n)), r.IntN(4) == 0))
	}
	// Regions that are placed alike may be merged.
	for i := range l[1:] {
		if x := &l[i+1].Region; r.IntN(3) == 0 && len(x.Peers) > 0 {
			x.Peers = slices.Clone(l[i].Region.Peers)
			for k := range x.Peers {
				x.Peers[k].ID = x.ID*100 + uint64(k)
			}
		}
	}
	return shuffled(r, l)
}

func someStores(r *rand.Rand, wild bool) []api.StoreView {
	var l []api.StoreView
	for s := 1; s <= 5; s++ {
		if r.IntN(8) != 0 {
			l = append(l, api.StoreView{Store: s, Alive: r.IntN(6) != 0})
		}
	}
	for wild && r.IntN(2) == 0 {
		l = append(l, api.StoreView{Store: r.IntN(9) - 1, Alive: r.IntN(2) == 0})
	}
	return shuffled(r, l)
}

func somePolicy(r *rand.Rand) api.Policy {
	return api.Policy{Replicas: r.IntN(6) - 1, Split: r.IntN(14) - 1, Merge: r.IntN(10) - 1}
}

func TestAgainstTheWords(t *testing.T) { // P17.1, P17.2, P17.4
	var kinds [api.OrderMerge + 1]int
	for run := range 30000 {
		r := dice(run)
		wild := run%2 == 0
		p, stores, regions := somePolicy(r), someStores(r, wild), someViews(r, wild)
		got, words := Decide(p, stores, regions), decideByWords(p, stores, regions)
		if told(got) != told(words) {
			t.Fatalf("run %d: %+v, %v, %v: %s; want %s", run, p, stores, regions, told(got), told(words))
		}
		for _, o := range got {
			kinds[o.Kind]++
		}
	}
	for k := api.OrderAdd; k <= api.OrderMerge; k++ {
		if kinds[k] < 500 {
			t.Errorf("%d orders of the kind %d: the views are chosen badly", kinds[k], k)
		}
	}
}

// toldAgain has each store once more, as it was told or not.
func toldAgain(r *rand.Rand, l []api.StoreView) []api.StoreView {
	again := shuffled(r, l)
	for i := range again {
		again[i].Alive = r.IntN(2) == 0
	}
	return slices.Concat(l, again)
}

// toldAnew has each region's number once more, with whatever else.
func toldAnew(r *rand.Rand, l []api.RegionView) []api.RegionView {
	again := shuffled(r, l)
	for i, v := range again {
		again[i] = someRegion(r, v.Region.ID, string(v.Region.Start), string(v.Region.End), false)
	}
	return slices.Concat(l, again)
}

func TestAsSets(t *testing.T) { // P17.4: the order of the views is nothing
	for run := range 3000 {
		r := dice(run)
		p, stores, regions := somePolicy(r), someStores(r, false), someViews(r, false)
		was := told(Decide(p, stores, regions))
		for range 4 {
			if got := told(Decide(p, shuffled(r, stores), shuffled(r, regions))); got != was {
				t.Fatalf("run %d: %+v, %v, %v: %s; in another order %s", run, p, stores, regions, was, got)
			}
		}
		if got := told(Decide(p, toldAgain(r, stores), toldAnew(r, regions))); got != was {
			t.Fatalf("run %d: %+v, %v, %v: %s; told twice %s", run, p, stores, regions, was, got)
		}
	}
}

// doable: the order fits the region as it was told (P17.4).
func doable(o api.Order, stores []api.StoreView, regions []api.RegionView) bool {
	find := func(id uint64) int {
		return slices.IndexFunc(regions, func(v api.RegionView) bool { return v.Region.ID == id })
	}
	i := find(o.Region)
	if i < 0 || regions[i].Busy {
		return false
	}
	p, has := region.On(regions[i].Region, o.Store)
	alive := slices.Contains(stores, api.StoreView{Store: o.Store, Alive: true})
	switch o.Kind {
	case api.OrderAdd:
		return !has && alive && o.Peer == 0 && o.Other == 0
	case api.OrderPromote:
		return has && alive && p.Learner && o.Peer == p.ID && o.Other == 0
	case api.OrderRemove:
		return has && o.Peer == p.ID && o.Other == 0 && Steps(o, regions[i].Region)[1] > 0
	case api.OrderLeader:
		return has && alive && !p.Learner && o.Peer == 0 && o.Other == 0
	case api.OrderSplit:
		return o == api.Order{Kind: api.OrderSplit, Region: o.Region}
	}
	k := find(o.Other)
	return k >= 0 && !regions[k].Busy && o == api.Order{Kind: api.OrderMerge, Region: o.Region, Other: o.Other}
}

func TestOrdersCanBeDone(t *testing.T) { // P17.4; and no region is named twice
	for run := range 10000 {
		r := dice(run)
		p, stores, regions := somePolicy(r), someStores(r, false), someViews(r, false)
		named := map[uint64]int{}
		last := uint64(0)
		for _, o := range Decide(p, stores, regions) {
			if !doable(o, stores, regions) || o.Region <= last {
				t.Fatalf("run %d: %+v, %v, %v: %s", run, p, stores, regions, toldOrder(o))
			}
			last = o.Region
			named[o.Region]++
			named[o.Other]++
			if named[o.Region] > 1 || o.Other != 0 && named[o.Other] > 1 {
				t.Fatalf("run %d: a region is named twice: %s", run, toldOrder(o))
			}
		}
	}
}

func TestWellPlacedRegions(t *testing.T) { // P17.4: no order of the first three kinds, but the one for balance
	for run := range 3000 {
		r := dice(run)
		n := 1 + r.IntN(5)
		stores := shuffled(r, storesOf("1 2 3 4 5"))
		l := someViews(r, false)
		for i := range l {
			x := &l[i].Region
			x.Peers = nil
			for k, s := range r.Perm(5)[:n] {
				x.Peers = append(x.Peers, api.Peer{ID: x.ID*100 + uint64(k), Store: 1 + s})
			}
		}
		for _, o := range Decide(api.Policy{Replicas: n}, stores, l) {
			if o.Kind == api.OrderPromote || o.Kind == api.OrderRemove || o.Kind == api.OrderAdd && n == 5 {
				t.Fatalf("run %d: Replicas %d, %v: %s", run, n, l, toldOrder(o))
			}
		}
		if o := Decide(api.Policy{Replicas: n}, stores, l[:1]); n > 1 && len(o) > 0 {
			t.Fatalf("run %d: Replicas %d, %v alone: %s", run, n, l[0], told(o))
		}
	}
}

// obey does an order at a region, and holds what comes of it against Steps.
func obey(t *testing.T, o api.Order, l []api.RegionView, next *uint64) {
	t.Helper()
	i := slices.IndexFunc(l, func(v api.RegionView) bool { return v.Region.ID == o.Region })
	r := &l[i].Region
	steps := Steps(o, *r)
	peers := slices.Clone(r.Peers)
	switch o.Kind {
	case api.OrderAdd:
		*next++
		peers = append(peers, api.Peer{ID: *next, Store: o.Store, Learner: true})
	case api.OrderPromote:
		peers[slices.IndexFunc(peers, func(p api.Peer) bool { return p.ID == o.Peer })].Learner = false
	case api.OrderRemove:
		peers = slices.DeleteFunc(peers, func(p api.Peer) bool { return p.ID == o.Peer })
	}
	r.Peers = peers
	voters := 0
	for _, p := range peers {
		if !p.Learner {
			voters++
		}
	}
	if fmt.Sprint(steps) != fmt.Sprint([]int{len(peers), voters}) {
		t.Fatalf("Steps of %s: %v; it has %d members, %d of which vote", toldOrder(o), steps, len(peers), voters)
	}
	if e := region.Check(*r); e != api.OK {
		t.Fatalf("%s leaves no region: error %d; %v", toldOrder(o), e, peers)
	}
}

func TestOrdersComeToAnEnd(t *testing.T) { // P17.2, P17.3: done again and again, they bring as many voting replicas as are asked for, and no others
	for run := range 1000 {
		r := dice(run)
		stores := someStores(r, false)
		alive := len(slices.DeleteFunc(slices.Clone(stores), func(s api.StoreView) bool { return !s.Alive }))
		p := api.Policy{Replicas: 1 + r.IntN(max(alive, 1))}
		l := someViews(r, false)
		for i := range l {
			l[i].Busy, l[i].Leader = false, 0
		}
		next := uint64(5000)
		rounds := 0
		for orders := Decide(p, stores, l); len(orders) > 0; orders = Decide(p, stores, l) {
			for _, o := range orders {
				obey(t, o, l, &next)
			}
			if rounds++; rounds > 40 {
				t.Fatalf("run %d: Replicas %d, %v: no end at %v: %s", run, p.Replicas, stores, l, told(orders))
			}
		}
		for _, v := range l {
			wrong := slices.ContainsFunc(v.Region.Peers, func(x api.Peer) bool {
				return x.Learner || !slices.Contains(stores, api.StoreView{Store: x.Store, Alive: true})
			})
			if alive > 0 && (wrong || len(v.Region.Peers) != p.Replicas) {
				t.Fatalf("run %d: Replicas %d, stores %v: at the end %v", run, p.Replicas, stores, v)
			}
		}
	}
}
