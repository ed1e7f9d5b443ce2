package host

import (
	"fmt"
	"testing"

	"regatta/api"
	"regatta/letter"
)

// TestClock: P18.11, P18.14: each 4 ticks the placement driver's clock goes on; each 8 ticks it is told what there is.
func TestClock(t *testing.T) {
	w := calmWorld(t, 4)
	count := map[int]int{}
	w.pass = func(from, to int, x letter.Part) bool {
		if to == w.driver().store {
			count[x.Kind]++
		}
		return true
	}
	for i := range w.hosts {
		d, ok := w.hosts[i].Driver()
		if ok && len(d.Stores(8)) != 4 {
			t.Errorf("P18.14: the stores %v are known", d.Stores(8))
		}
	}
	d, _ := w.driver().Driver()
	before := d.Clock()
	w.rounds(80)
	if got := d.Clock() - before; got != 20 {
		t.Errorf("P18.11: the clock went on by %d in 80 ticks", got)
	}
	if count[letter.Store] != 30 { // of three stores: what its own tells goes in no letter
		t.Errorf("P18.11: the stores were told %d times", count[letter.Store])
	}
	if n := count[letter.Region]; n != 0 && n != 10 {
		t.Errorf("P18.11: the region was told %d times", n)
	}
	// Whoever is not heard of is not alive any more.
	w.cut = 4
	w.rounds(80)
	if l := d.Stores(aliveFor); len(l) != 3 {
		t.Errorf("P18.11: the stores %v are alive", l)
	}
	w.cut = 0
	w.rounds(20)
	if l := d.Stores(aliveFor); len(l) != 4 {
		t.Errorf("P18.11: the stores %v are alive", l)
	}
}

// TestReplicas is W5: in a calm from the beginning each region comes to as many voting replicas as the policy says.
func TestReplicas(t *testing.T) {
	t.Parallel()
	for stores := 1; stores <= 5; stores++ {
		for replicas := 1; replicas <= 6; replicas++ {
			w := newWorld(t, 1, api.Setup{Stores: stores, Clients: 1, Policy: api.Policy{Replicas: replicas}})
			w.rounds(200)
			w.replicated()
			w.settled()
		}
	}
}

// TestNoPolicy: where Replicas is not above 0 nothing is scheduled, whatever else the policy says.
func TestNoPolicy(t *testing.T) {
	for _, p := range []api.Policy{{}, {Replicas: -3}, {Split: 1, Merge: 1}, {Replicas: 0, Split: 5}} {
		w := newWorld(t, 1, api.Setup{Stores: 5, Clients: 1, Policy: p})
		w.rounds(40)
		for _, key := range []string{"a", "b", "c"} {
			w.doCmd(2, onePhase(w.stamp(), key, "value"))
		}
		w.rounds(100)
		if l := w.alive(); len(l) != 1 || len(l[0].Peers) != 3 || l[0].Epoch != (api.Epoch{Conf: 1, Version: 1}) {
			t.Errorf("P18.11: with %+v: %+v", p, l)
		}
	}
}

// TestSplitsAndMergesBySize: P18.11: what the policy says of sizes.
func TestSplitsAndMergesBySize(t *testing.T) {
	t.Parallel()
	w := newWorld(t, 1, api.Setup{Stores: 3, Clients: 1, Policy: api.Policy{Replicas: 3, Split: 100, Merge: 30}})
	w.rounds(60)
	for k := range 30 {
		key := fmt.Sprintf("k%02d", k)
		c := w.clients[0]
		done := false
		for !done {
			c.time(func(ts uint64) {
				if !done {
					c.cmd(key, onePhase(ts, key, "0123456789"), func(r api.Result) { done = done || r.Err == api.OK })
				}
			})
			w.rounds(4)
		}
	}
	w.rounds(200)
	w.replicated()
	if n := len(w.alive()); n < 4 {
		t.Errorf("P18.11: %d regions", n)
	}
	w.settled()
	for k := range 30 {
		key := fmt.Sprintf("k%02d", k)
		found := false
		for _, r := range w.alive() {
			if x := w.get(r.ID, key, w.stamp()); x.Result.Err == api.OK {
				found = found || x.Found && string(x.Value) == "0123456789"
			}
		}
		if !found {
			t.Errorf("W5: %s is lost", key)
		}
	}
}

// TestDeadStore: what a lost store held is made up for, and it goes when it comes back.
func TestDeadStore(t *testing.T) {
	w := newWorld(t, 1, api.Setup{Stores: 4, Clients: 1, Policy: api.Policy{Replicas: 3}})
	w.rounds(60)
	lost := w.eye.newest[2].Peers[0].Store
	w.crash(lost - 1)
	w.rounds(250)
	for _, p := range w.eye.newest[2].Peers {
		if p.Store == lost {
			t.Fatalf("P18.11: %+v", w.eye.newest[2])
		}
	}
	w.calm()
	w.rounds(100)
	w.replicated()
	w.settled()
}

// TestErrands: P18.11: one order at a time for a region; one that is not done is given up behind 64 ticks.
func TestErrands(t *testing.T) {
	w := newWorld(t, 1, api.Setup{Stores: 4, Clients: 1, Policy: api.Policy{Replicas: 4}})
	var orders []int // the rounds in which one was given
	round := 0
	w.pass = func(_, _ int, x letter.Part) bool {
		if x.Kind == letter.Order {
			orders = append(orders, round)
		}
		return x.Kind != letter.Order
	}
	w.rounds(30)
	w.order(api.Order{Kind: api.OrderLeader, Region: 2, Store: w.driver().store%3 + 1}, "") // so that orders go in letters
	for round = range 250 {
		w.rounds(1)
	}
	if len(orders) < 3 || len(orders) > 5 {
		t.Fatalf("P18.11: orders in the rounds %v", orders)
	}
	for i := 1; i < len(orders); i++ {
		if n := orders[i] - orders[i-1]; n < giveUp || n > giveUp+governEach {
			t.Errorf("P18.11: orders in the rounds %v", orders)
		}
	}
	w.pass = nil
	w.rounds(150)
	w.replicated()
}

// TestOldOrder: an order that comes late, when the region is another one, is not done.
func TestOldOrder(t *testing.T) {
	w := calmWorld(t, 3)
	for _, key := range []string{"a", "b", "c", "d"} {
		w.doCmd(2, onePhase(w.stamp(), key, "value"))
	}
	lead := w.leader(2)
	x := letter.Part{Kind: letter.Order, Order: api.Order{Kind: api.OrderSplit, Region: 2}, Epoch: w.epoch(2)}
	w.tell(lead.store%3+1, lead.store, x)
	w.rounds(20)
	l := w.alive()
	if len(l) != 2 || string(l[0].End) != "c" {
		t.Fatalf("a split in the middle: %+v", l)
	}
	w.tell(lead.store%3+1, lead.store, x)
	w.rounds(20)
	if len(w.alive()) != 2 {
		t.Errorf("an old order is done: %+v", w.alive())
	}
	w.settled()
}

func TestMiddle(t *testing.T) {
	cell := func(key string, n int) api.Cell {
		return api.Cell{Key: []byte(key), Writes: []api.Write{{Kind: api.KindPut, Commit: 2, Start: 1, Value: make([]byte, n)}}}
	}
	for _, x := range []struct {
		cells []api.Cell
		want  string
	}{
		{nil, ""},
		{[]api.Cell{cell("a", 9)}, ""},
		{[]api.Cell{cell("a", 9), cell("b", 9)}, "b"},
		{[]api.Cell{cell("a", 256), cell("b", 1), cell("c", 1)}, "b"},
		{[]api.Cell{cell("a", 1), cell("b", 1), cell("c", 2000)}, "c"},
		{[]api.Cell{cell("a", 1), cell("b", 1), cell("c", 1), cell("d", 1)}, "c"},
	} {
		if got := string(middle(api.Image{Cells: x.cells})); got != x.want {
			t.Errorf("middle: %q; want %q", got, x.want)
		}
	}
}

// TestLeadersAreSpread: orders about leaders come to an end.
func TestLeadersAreSpread(t *testing.T) {
	w := newWorld(t, 1, api.Setup{Stores: 3, Clients: 1, Policy: api.Policy{Replicas: 3}})
	w.rounds(40)
	for _, key := range []string{"c", "f", "i", "l", "o"} {
		w.split(w.alive()[len(w.alive())-1].ID, key)
		w.rounds(20)
	}
	w.rounds(200)
	n := len(w.eye.leaders)
	leads := map[int]int{}
	for _, r := range w.alive() {
		leads[w.leader(r.ID).store]++
	}
	w.rounds(200)
	if len(w.eye.leaders) != n || len(leads) != 3 {
		t.Errorf("leaders %v; %d more changes", leads, len(w.eye.leaders)-n)
	}
}
