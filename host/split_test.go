package host

import (
	"fmt"
	"slices"
	"testing"

	"regatta/api"
	"regatta/letter"
	"regatta/region"
	"regatta/vault"
)

// alive: the regions that are, by Start.
func (w *world) alive() []api.Region {
	var l []api.Region
	for id, r := range w.eye.newest {
		if !w.eye.swallowed[id] {
			l = append(l, r)
		}
	}
	slices.SortFunc(l, func(a, b api.Region) int { return slices.Compare(a.Start, b.Start) })
	return l
}

func (w *world) split(id uint64, key string) {
	w.order(api.Order{Kind: api.OrderSplit, Region: id}, key)
}

func TestSplit(t *testing.T) { // P18.6
	for stores := 1; stores <= 5; stores++ {
		w := calmWorld(t, stores)
		before := w.hosts[0].peers[2].state.Region()
		w.split(2, "m")
		w.rounds(4) // the new region's leader does not wait till the others miss one
		l := w.alive()
		if len(l) != 2 || l[0].ID != 2 || string(l[0].End) != "m" || string(l[1].Start) != "m" || l[1].ID < 100 {
			t.Fatalf("P18.6: %+v", l)
		}
		low, high, _ := region.Split(before, []byte("m"), l[1].ID, numbersOf(l[1].Peers))
		if !same(low, l[0]) || !same(high, l[1]) {
			t.Errorf("P18.6: %+v of %+v", l, before)
		}
		w.leader(l[1].ID)
		for i := range min(stores, 3) {
			p := w.hosts[i].peers[l[1].ID]
			s, there, _ := vault.Load(w.hosts[i].engine, l[1].ID)
			if !there || s.Snap.Index != 1 || s.Snap.Term != 1 || fmt.Sprint(s.Snap.Conf) != fmt.Sprint(api.Conf{Voters: numbersOf(high.Peers)}) || s.Hard.Vote == 0 && stores > 1 {
				t.Errorf("P18.6: the store %d keeps %+v", i+1, s)
			}
			if x, ok := stateOf(l[1].ID, s.Snap); !ok || x.Applied() != 1 {
				t.Errorf("P18.6: the store %d begins with another state", i+1)
			}
			if p.id != l[1].Peers[i].ID {
				t.Errorf("P18.6: the peer on the store %d is %d", i+1, p.id)
			}
		}
		w.rounds(20)
		w.settled()
	}
}

func numbersOf(l []api.Peer) []uint64 {
	var out []uint64
	for _, p := range l {
		out = append(out, p.ID)
	}
	return out
}

func TestSplitsThatAreNone(t *testing.T) { // P18.2: nothing comes of them
	w := calmWorld(t, 3)
	w.split(2, "m")
	w.rounds(20)
	l := w.alive()
	long := fmt.Sprintf("n%0*d", api.MaxKey, 0)
	for _, x := range []struct {
		id  uint64
		key string
	}{{l[0].ID, ""}, {l[0].ID, "m"}, {l[0].ID, "z"}, {l[1].ID, "m"}, {l[1].ID, "a"}, {l[1].ID, long}, {1, "c"}, {0, "c"}, {77, "c"}} {
		w.split(x.id, x.key)
		w.rounds(12)
		if got := w.alive(); !slices.EqualFunc(got, l, same) {
			t.Fatalf("a split of %d at %q: %+v", x.id, x.key, got)
		}
	}
	w.settled()
	// The key of the second one is not the region's any more when its turn comes.
	w.split(l[0].ID, "c")
	w.split(l[0].ID, "d")
	w.rounds(20)
	if got := w.alive(); len(got) != 3 || string(got[0].End) != "c" {
		t.Errorf("two splits at one time: %+v", got)
	}
	w.settled()
}

// TestOrdersAtOneTime: P18.14: what is ordered while something else is being done is done behind that.
func TestOrdersAtOneTime(t *testing.T) {
	for seed := range uint64(20) {
		w := newWorld(t, seed, setupOf(5))
		w.rounds(40)
		out := w.leader(2).store%3 + 1 // not the leader's: with its office the orders that wait would be over
		orders := []api.Order{
			{Kind: api.OrderAdd, Region: 2, Store: 4}, {Kind: api.OrderAdd, Region: 2, Store: 5},
			{Kind: api.OrderRemove, Region: 2, Store: out}, {Kind: api.OrderSplit, Region: 2},
		}
		for _, i := range w.r.Perm(len(orders)) {
			w.order(orders[i], "m")
		}
		w.rounds(60)
		l := w.alive()
		if len(l) != 2 || string(l[1].Start) != "m" || len(l[0].Peers) != 4 {
			t.Fatalf("P18.14: %+v", l)
		}
		if p, there := region.On(l[0], out); there {
			t.Errorf("P18.14: the peer %+v stays", p)
		}
		w.settled()
		// There is no end of what may be ordered, but one of what waits; and behind some time nothing waits any more.
		w.cut = w.leader(2).store
		for k := range 4 * maxOrders {
			w.order(api.Order{Kind: api.OrderSplit, Region: 2}, fmt.Sprintf("c%03d", k))
		}
		p := w.hosts[w.cut-1].peers[2]
		if n := len(p.office.tasks); n != maxOrders {
			t.Errorf("%d orders wait", n)
		}
		for range giveUp {
			w.tick(w.cut - 1)
			w.way = nil
		}
		if n := len(p.office.tasks); n != 0 {
			t.Errorf("P18.11: %d orders wait", n)
		}
	}
}

func TestAsManyRegionsAsMayBe(t *testing.T) {
	t.Parallel()
	w := calmWorld(t, 3)
	for k := range 40 {
		w.split(w.alive()[k%len(w.alive())].ID, fmt.Sprintf("%03d", k*7%40))
		w.rounds(6)
	}
	for k := range 40 {
		for _, r := range w.alive() {
			if region.Covers(r, fmt.Appendf(nil, "%03d", k)) && len(w.alive()) < api.MaxRegions {
				w.split(r.ID, fmt.Sprintf("%03d", k))
				w.rounds(6)
				break
			}
		}
	}
	if n := len(w.alive()); n != api.MaxRegions {
		t.Fatalf("%d regions", n)
	}
	for _, r := range w.alive() {
		w.split(r.ID, string(r.Start)+"x")
	}
	w.rounds(20)
	if n := len(w.alive()); n != api.MaxRegions {
		t.Errorf("%d regions; want no more than there may be", n)
	}
	w.settled()
}

// TestSplitLate: P18.6: a store that hears of a split when the new region's peer is here, was here, or has promised something.
func TestSplitLate(t *testing.T) {
	for _, what := range []string{"blank", "by a snapshot", "gone", "never"} {
		t.Run(what, func(t *testing.T) {
			w := calmWorld(t, 5)
			late := w.leader(2).store%3 + 1
			id, mine := w.splitWithout(late, what)
			h := w.hosts[late-1]
			p := h.peers[id]
			var term, vote, applied uint64
			if p != nil {
				term, vote, applied = p.Status().Term, p.Status().Vote, p.applied
			}
			// Now the old region's entries come, the new one's leader is not heard.
			w.pass = func(from, to int, x letter.Part) bool { return to != late || x.Group == 2 || x.Group == 1 }
			w.rounds(4)
			q := h.peers[id]
			switch what {
			case "blank":
				if q == nil || q.state == nil || q.applied != 1 || q.Status().Term < term || q.Status().Term == term && q.Status().Vote != vote {
					t.Errorf("P18.6: a blank one of the term %d is %+v", term, q.Status())
				}
			case "by a snapshot":
				if q != p || q.applied < applied {
					t.Errorf("P18.6: one that came by a snapshot begins anew: %+v", q.Status())
				}
			case "gone":
				if q != nil {
					t.Errorf("P18.6: one that went is here: %+v", q.Status())
				}
			case "never":
				if q == nil || q.id != mine || q.applied != 1 {
					t.Errorf("P18.6: it does not come: %+v", q)
				}
			}
			w.pass = nil
			w.rounds(60)
			w.settled()
		})
	}
}

// splitWithout: the region 2 is split, and its entries do not come to the store; what comes of the new region is said by
// what. The new region's number, and the number of its peer on that store.
func (w *world) splitWithout(late int, what string) (uint64, uint64) {
	w.pass = func(from, to int, x letter.Part) bool {
		if to != late {
			return true
		}
		isNew := x.Group > 2
		switch what {
		case "blank":
			// It is asked for its vote, and gets no snapshot.
			return x.Group != 2 && !(isNew && (x.Kind == letter.Piece || x.Message.Kind == api.MsgAppend))
		case "never":
			return x.Group != 2 && !isNew
		}
		return x.Group != 2
	}
	w.split(2, "m")
	w.rounds(10)
	id := w.alive()[1].ID
	mine, _ := region.On(w.alive()[1], late)
	h := w.hosts[late-1]
	p := h.peers[id]
	switch what {
	case "blank":
		if p == nil || p.state != nil || p.Status().Term < 2 {
			w.fail("no blank peer: %+v", p)
		}
	case "by a snapshot":
		if p == nil || p.state == nil || p.applied < 2 {
			w.fail("no peer: %+v", p)
		}
	case "gone", "never":
		w.order(api.Order{Kind: api.OrderRemove, Region: id, Store: late}, "")
		w.rounds(40)
		if h.peers[id] != nil || h.buried(id) != map[string]uint64{"gone": mine.ID, "never": 0}[what] {
			w.fail("it is here: %+v, %d is buried", h.peers[id], h.buried(id))
		}
	}
	return id, mine.ID
}

func TestOrdersForOthers(t *testing.T) { // P18.2: a host whose peer does not lead does nothing
	w := calmWorld(t, 3)
	for i, h := range w.hosts {
		for kind := -1; kind <= api.OrderMerge+1; kind++ {
			for _, id := range []uint64{0, 1, 2, 3, 1 << 63} {
				for _, store := range []int{-1, 0, 1, 4, 1 << 40} {
					o := api.Order{Kind: kind, Region: id, Store: store, Peer: 77, Other: 1}
					if id == 2 && h == w.leader(2) {
						continue
					}
					before := textHost(h)
					l, e := h.Order(o, []byte("m"))
					if len(l) > 0 || e != api.OK || textHost(h) != before {
						t.Errorf("P18.2: the store %d does %+v: %d letters, error %d", i+1, o, len(l), e)
					}
				}
			}
		}
	}
	// Orders that cannot be done do nothing at the leader, either.
	l := w.alive()
	for _, o := range []api.Order{
		{Kind: api.OrderAdd, Store: 0}, {Kind: api.OrderAdd, Store: 1}, {Kind: api.OrderAdd, Store: 4}, {Kind: api.OrderAdd, Store: -1},
		{Kind: api.OrderPromote, Store: 1}, {Kind: api.OrderPromote, Store: 4}, {Kind: api.OrderRemove, Store: 4}, {Kind: api.OrderRemove, Store: 1, Peer: 5},
		{Kind: api.OrderLeader, Store: 4}, {Kind: api.OrderLeader, Store: 1, Peer: 77}, {Kind: api.OrderMerge, Other: 2}, {Kind: api.OrderMerge, Other: 0},
		{Kind: api.OrderMerge, Other: 1}, {Kind: api.OrderMerge, Other: 77}, {Kind: 0, Store: 1}, {Kind: 7, Store: 1}, {Kind: -1, Store: 1},
	} {
		o.Region = 2
		w.order(o, "")
		w.rounds(8)
		if got := w.alive(); !slices.EqualFunc(got, l, same) {
			t.Errorf("%+v: %+v", o, got)
		}
	}
	w.settled()
	// The last one that votes stays.
	for store := 1; store <= 3; store++ {
		w.order(api.Order{Kind: api.OrderRemove, Region: 2, Store: store}, "")
		w.rounds(40)
	}
	if r := w.eye.newest[2]; len(r.Peers) != 1 || r.Peers[0].Store != 3 {
		t.Errorf("who is left: %+v", r)
	}
	w.settled()
}

// TestNotAheadOfTime: P18.6: what changes a region, or its members, is proposed when all that is in the log is applied.
func TestNotAheadOfTime(t *testing.T) {
	for _, o := range []api.Order{
		{Kind: api.OrderSplit}, {Kind: api.OrderAdd, Store: 4}, {Kind: api.OrderRemove}, {Kind: api.OrderMerge},
	} {
		w, right := mergeWorld(t, 4)
		p := w.leader(2).peers[2]
		o.Region = 2
		switch o.Kind {
		case api.OrderRemove:
			o.Store = p.view(w.leader(2).store).Store%3 + 1
		case api.OrderMerge:
			o.Region, o.Other = right, 2
		}
		w.pass = func(_, _ int, x letter.Part) bool { return x.Group != 2 || x.Kind != letter.Message }
		c := put(w.stamp(), "a", "1")
		c.Epoch = w.epoch(2)
		w.tell(5, w.leader(2).store, letter.Part{Kind: letter.AskCmd, Tag: letter.Tag{Seq: 1 << 40}, Group: 2, Cmd: c})
		last := p.Status().Last
		if last == p.applied {
			t.Fatal("it is applied")
		}
		w.order(o, "c")
		w.rounds(12)
		if got := p.Status().Last; got != last {
			t.Errorf("P18.6: with %+v there are %d entries behind one that is not applied", o, got-last)
		}
		w.pass = nil
		w.rounds(60)
		w.settled()
		changed := w.eye.newest[2].Epoch != c.Epoch
		if !changed && o.Kind != api.OrderMerge {
			t.Errorf("P18.2: %+v is not done: %+v", o, w.alive())
		}
	}
}
