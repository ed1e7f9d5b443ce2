package host

import (
	"bytes"
	"flag"
	"fmt"
	"slices"
	"testing"

	"regatta/api"
	"regatta/pd"
	"regatta/region"
)

// More, or other runs than those of each test of the project: go test ./host -runs 1000 -first 5000.
var (
	runs  = flag.Int("runs", 24, "how many runs of each kind")
	first = flag.Uint64("first", 0, "the number of the first one")
)

// mix is how often which things happen in a run.
type mix struct {
	tick, client, lose, double, late, cut, crash, start, arm, order, burst int // of 1000; else a letter is delivered
	reach                                                                      // from among how many
}

type reach int

func (w *world) anyMix() mix {
	of := func(l ...int) int { return l[w.r.IntN(len(l))] }
	return mix{tick: of(30, 80, 150), client: of(5, 30, 80, 300), lose: of(0, 2, 10, 40), double: of(0, 2, 20), late: of(0, 5, 40), cut: of(0, 1, 5), crash: of(0, 1, 6),
		start: of(5, 30), arm: of(0, 0, 1, 3), order: of(1, 4, 15, 40), burst: of(0, 5, 20), reach: reach(of(1, 4, 12, 1000))}
}

// any does one thing of any kind.
func (w *world) any(m mix) {
	i := w.r.IntN(len(w.hosts))
	k := w.r.IntN(1000)
	is := func(n int) bool { k -= n; return k < 0 }
	switch {
	case is(m.tick):
		w.tick(i)
	case is(m.client):
		c := w.clients[w.r.IntN(len(w.clients))]
		c.tick()
		c.any()
	case is(m.lose):
		if len(w.way) > 0 {
			w.take(w.r.IntN(len(w.way)))
			w.counts["lost"]++
		}
	case is(m.double):
		if len(w.way) > 0 {
			w.way = append(w.way, w.way[w.r.IntN(len(w.way))])
			w.counts["doubled"]++
		}
	case is(m.late):
		if len(w.archive) > 0 {
			w.way = append(w.way, w.archive[w.r.IntN(len(w.archive))])
			w.counts["late"]++
		}
	case is(m.cut):
		w.anyCut()
	case is(m.crash):
		w.crash(i)
	case is(m.start):
		for i := range w.hosts {
			if w.hosts[i] == nil && !w.open(i) {
				w.disks[i].Crash(nil)
				w.armed[i] = false
			}
		}
	case is(m.arm):
		w.disks[i].Arm(w.r.IntN(40))
		w.armed[i] = true
	case is(m.order):
		w.anyOrder()
	case is(m.burst):
		w.rounds(1 + w.r.IntN(12))
	default:
		if len(w.way) > 0 {
			w.deliver(w.take(w.r.IntN(min(len(w.way), int(m.reach)))))
		}
	}
	if len(w.way) > 256 {
		w.way = w.way[len(w.way)-256:]
	}
	if n := len(w.way); n > 0 && w.r.IntN(8) == 0 {
		w.keepOne(w.way[w.r.IntN(n)])
	}
}

// keepOne: some letters come once more when they are very old.
func (w *world) keepOne(p packet) {
	p.Data = bytes.Clone(p.Data)
	if len(w.archive) < 100 {
		w.archive = append(w.archive, p)
		return
	}
	w.archive[w.r.IntN(len(w.archive))] = p
}

// anyCut: a store from all others, or two from one another; or none.
func (w *world) anyCut() {
	n := len(w.hosts)
	switch w.r.IntN(4) {
	case 0, 1:
		w.cut = w.r.IntN(n+1) * w.r.IntN(2)
	case 2:
		w.pairs = map[[2]int]bool{}
		fallthrough
	default:
		if a, b := 1+w.r.IntN(n), 1+w.r.IntN(n); a != b && w.pairs != nil {
			w.pairs[pair(a, b)] = true
		}
	}
}

// anyOrder: of regions that are, mostly.
func (w *world) anyOrder() api.Order {
	var ids []uint64
	for id := range w.eye.newest {
		if !w.eye.swallowed[id] {
			ids = append(ids, id)
		}
	}
	slices.Sort(ids)
	pick := func() uint64 { return ids[w.r.IntN(len(ids))] }
	o := api.Order{Kind: 1 + w.r.IntN(6), Region: pick(), Store: 1 + w.r.IntN(w.setup.Stores), Other: pick()}
	if o.Kind == api.OrderMerge && len(ids) > 1 && w.r.IntN(4) > 0 {
		r := w.eye.newest[o.Region]
		for _, id := range ids {
			if n := w.eye.newest[id]; string(n.End) == string(r.Start) && len(n.End) > 0 || string(n.Start) == string(r.End) && len(r.End) > 0 {
				o.Other = id
			}
		}
	}
	if o.Kind == api.OrderSplit && len(ids) > 12 {
		o.Kind = api.OrderLeader
	}
	w.order(o, w.anyKey())
	return o
}

func (w *world) anyKey() string {
	return string(rune('a'+w.r.IntN(8))) + []string{"", "a", "b"}[w.r.IntN(3)]
}

// settled: P18.14.
func (w *world) settled() {
	w.settledPeers()
	w.settledLeaders()
	for i, h := range w.hosts {
		d, ok := h.Driver()
		if ok != (i < founders) {
			w.fail("P18.3: Driver of the store %d", i+1)
		}
		if ok {
			w.settledDriver(d)
		}
	}
}

// led: P18.14, of what a policy goes on to change, too: each region has just one leader, and is known, as are all stores;
// and the clock goes on.
func (w *world) led() {
	leaders := map[uint64]int{}
	for _, h := range w.hosts {
		for _, v := range h.Peers() {
			leaders[v.Region.ID] += 0
			if v.Role == api.RoleLeader {
				leaders[v.Region.ID]++
			}
		}
	}
	for _, h := range w.hosts[:min(founders, len(w.hosts))] {
		d, _ := h.Driver()
		for id, n := range leaders {
			if _, known := regionOf(d, id); !known || n != 1 {
				w.fail("P18.14: %d peers lead the region %d; known are %+v", n, id, d.Regions())
			}
		}
		was := w.clocks[h.store-1]
		w.clocks[h.store-1] = d.Clock()
		if len(d.Stores(d.Clock()+1)) != len(w.hosts) || d.Clock() <= was {
			w.fail("P18.14: the store %d is at the clock %d, and was at %d; known are the stores %v", h.store, d.Clock(), was, d.Stores(d.Clock()+1))
		}
	}
}

// settledPeers: each peer is one of its region as that is now, and free of merges.
func (w *world) settledPeers() {
	for i, h := range w.hosts {
		for _, v := range h.Peers() {
			if w.eye.swallowed[v.Region.ID] {
				w.fail("P18.7: the store %d has a peer of the region %d, which is swallowed: %+v", i+1, v.Region.ID, v)
			}
			n := w.eye.newest[v.Region.ID]
			if !has(n, v.Peer) {
				w.fail("P18.4: the store %d has the peer %d of %+v", i+1, v.Peer, n)
			}
			if v.Frozen {
				w.fail("P18.7: frozen: %+v", v)
			}
			if !same(n, v.Region) {
				w.fail("the store %d: %+v is %+v", i+1, v.Region, n)
			}
			if s, _ := h.State(v.Region.ID); s.Held() != 0 {
				w.fail("P18.7: held by %d: %+v", s.Held(), v)
			}
		}
	}
}

// settledLeaders: each region has all its peers, and just one leader.
func (w *world) settledLeaders() {
	leaders := map[uint64]int{}
	peers := map[uint64]int{}
	for _, h := range w.hosts {
		for _, v := range h.Peers() {
			peers[v.Region.ID]++
			if v.Role == api.RoleLeader {
				leaders[v.Region.ID]++
			}
		}
	}
	for id, r := range w.eye.newest {
		if w.eye.swallowed[id] {
			continue
		}
		if leaders[id] != 1 {
			w.fail("P18.14: %d peers lead the region %+v", leaders[id], r)
		}
		if peers[id] != len(r.Peers) {
			w.fail("P18.4: %d peers of the region %+v", peers[id], r)
		}
	}
}

// settledDriver: it knows all that there is.
func (w *world) settledDriver(d *pd.Driver) {
	if got := d.Stores(d.Clock() + 1); len(got) != w.setup.Stores {
		w.fail("P18.14: the stores %v are known", got)
	}
	if len(d.Open()) > 0 {
		w.fail("P18.7: merges are open")
	}
	l := d.Regions()
	for _, r := range l {
		if !same(r, w.eye.newest[r.ID]) {
			w.fail("P18.14: known is %+v; it is %+v", r, w.eye.newest[r.ID])
		}
	}
	if !region.Partition(l) {
		w.fail("P18.14: known are %+v", l)
	}
}

func TestAnyRun(t *testing.T) {
	t.Parallel()
	total := map[string]int{}
	for seed := range uint64(*runs) {
		t.Run(fmt.Sprint(seed), func(t *testing.T) {
			seed += *first
			w := newWorld(t, seed, api.Setup{Stores: 1 + int(seed)%5, Clients: 2, Policy: policyOf(seed)})
			w.run(3000)
			for k, n := range w.counts {
				total[k] += n
			}
		})
	}
	t.Log(total)
	for _, k := range []string{"reads", "commits", "locked", "lost", "doubled", "late", "crashes", "died", "compacted", "regions", "swallowed", "conf"} {
		if total[k] == 0 {
			t.Errorf("in no run there were %s", k)
		}
	}
}

func policyOf(seed uint64) api.Policy {
	switch seed / 5 % 4 {
	case 1:
		return api.Policy{Replicas: 1 + int(seed/20%5)}
	case 2:
		return api.Policy{Replicas: 1 + int(seed/20%5), Split: 60, Merge: 15}
	}
	return api.Policy{}
}

// TestAnyOrder is P18.14, whatever the order of ticks and letters is.
func TestAnyOrder(t *testing.T) {
	t.Parallel()
	for seed := range uint64(*runs) {
		t.Run(fmt.Sprint(seed), func(t *testing.T) {
			seed += *first
			w := newWorld(t, seed, api.Setup{Stores: 1 + int(seed)%5, Clients: 2, Policy: policyOf(seed / 2)})
			w.anyRounds(50)
			if w.setup.Policy.Replicas == 0 { // else something is under way
				w.settled()
			}
			w.led()
			m := w.anyMix()
			for range 1500 {
				w.any(m)
			}
			w.calm()
			w.anyRounds(120)
			w.led()
			if w.setup.Policy.Replicas > 0 {
				w.anyRounds(380)
				w.replicated()
			}
			w.settled()
			w.agree()
			if w.setup.Policy.Replicas == 0 {
				w.obeyed(w.anyRounds)
			}
		})
	}
}

func (w *world) run(steps int) {
	w.rounds(30)
	m := w.anyMix()
	for range steps {
		w.any(m)
	}
	w.calm()
	w.rounds(120)
	if p := w.setup.Policy; p.Replicas > 0 {
		w.rounds(380)
		w.replicated()
	}
	w.settled()
	w.agree()
	w.counts["regions"] += len(w.eye.newest)
	w.counts["swallowed"] += len(w.eye.swallowed) / 2
	w.counts["leaders"] += len(w.eye.leaders)
	w.counts["peers"] += len(w.eye.last)
	for _, r := range w.eye.newest {
		w.counts["conf"] += int(r.Epoch.Conf) - 1
	}
	for _, h := range w.hosts {
		for _, p := range h.peers {
			if p.Status().First > 2 {
				w.counts["compacted"]++
			}
		}
	}
	if w.setup.Policy.Replicas == 0 {
		w.obeyed(w.rounds)
	}
}

// replicated: W5.
func (w *world) replicated() {
	p := w.setup.Policy
	for id, r := range w.eye.newest {
		if w.eye.swallowed[id] {
			continue
		}
		voters := 0
		for _, x := range r.Peers {
			if !x.Learner {
				voters++
			}
		}
		if voters != min(p.Replicas, w.setup.Stores) || voters != len(r.Peers) {
			w.fail("W5: %+v with %+v", r, p)
		}
		size := 0
		for _, h := range w.hosts {
			if s, ok := h.State(id); ok {
				size = max(size, s.Size())
			}
		}
		if s, _ := w.hosts[r.Peers[0].Store-1].State(id); p.Split > 0 && size >= p.Split && len(s.Image().Cells) > 1 {
			w.fail("P18.11: so much lies in %+v: %d", r, size)
		}
	}
}

// obeyed: P18.14: what is ordered in a calm is done soon.
func (w *world) obeyed(rounds func(int)) {
	var alive []api.Region
	for id, r := range w.eye.newest {
		if !w.eye.swallowed[id] {
			alive = append(alive, r)
		}
	}
	slices.SortFunc(alive, func(a, b api.Region) int { return int(a.ID) - int(b.ID) })
	r := alive[w.r.IntN(len(alive))]
	key := string(r.Start) + "b"
	if len(alive) < api.MaxRegions && region.Covers(r, []byte(key)) {
		w.order(api.Order{Kind: api.OrderSplit, Region: r.ID}, key)
		rounds(60)
		n := w.eye.newest[r.ID]
		if string(n.End) != key {
			w.fail("P18.14: behind an order to split at %s: %+v is %+v", key, r, n)
		}
		w.settled()
		r = n
	}
	to := r.Peers[w.r.IntN(len(r.Peers))]
	if to.Learner {
		return
	}
	w.order(api.Order{Kind: api.OrderLeader, Region: r.ID, Store: to.Store}, "")
	rounds(20)
	if p := w.hosts[to.Store-1].peers[r.ID]; p.office == nil {
		w.fail("P18.14: the peer %+v of %+v does not lead", to, r)
	}
	w.settled()
}
