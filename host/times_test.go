package host

import (
	"testing"

	"regatta/api"
	"regatta/letter"
)

func TestTimestamps(t *testing.T) { // P18.9: they rise, and none comes twice, across windows and leaders
	for stores := 1; stores <= 3; stores++ {
		w := calmWorld(t, stores)
		last := uint64(0)
		take := func(n int) {
			for range n {
				ts := w.stamp()
				if ts <= last {
					t.Fatalf("P18.9: %d behind %d", ts, last)
				}
				last = ts
			}
		}
		take(30)
		limit := w.driver().peers[driverGroup].driver.Limit()
		if last > limit {
			t.Errorf("P18.9: %d is given, up to %d are known", last, limit)
		}
		for k := range 6 {
			i := w.driver().store - 1
			if k%2 == 0 {
				w.crash(i)
				w.rounds(30)
				w.calm()
			} else {
				w.cut = i + 1
				w.rounds(30)
				w.cut = 0
			}
			w.rounds(30)
			take(3)
		}
		w.settled()
	}
}

// TestManyTimestamps: more than one window holds.
func TestManyTimestamps(t *testing.T) {
	w := calmWorld(t, 3)
	given := map[uint64]bool{}
	for k := range 3 * api.MaxWindow {
		w.clients[0].ask(w.driver().store, letter.Part{Kind: letter.AskTime}, func(x letter.Part) {
			if given[x.TS] {
				t.Fatalf("P18.9: %d is given twice", x.TS)
			}
			given[x.TS] = true
		})
		if k%200 == 0 {
			w.rounds(1)
		}
	}
	w.rounds(2)
	if len(given) != 3*api.MaxWindow {
		t.Errorf("P18.9: %d are given", len(given))
	}
}

// TestOldOracle: P18.9: who leads no more, and does not know it, gives nothing, though its window is not used up.
func TestOldOracle(t *testing.T) {
	w := calmWorld(t, 3)
	w.stamp()
	old := w.driver()
	o := old.peers[driverGroup].office
	if o.oracle == nil || o.oracle.Last() >= o.oracle.Limit() {
		t.Fatal("its window is used up")
	}
	w.cut = old.store
	var told int
	w.heard = func(from int, l []api.Letter) {
		for _, x := range l {
			if x.To > 3 && from == old.store {
				told++
			}
		}
	}
	for range 5 {
		w.tell(4, old.store, letter.Part{Kind: letter.AskTime, Tag: letter.Tag{Seq: 1 << 40}})
		w.rounds(12)
	}
	if told > 0 || old.peers[driverGroup].office == nil {
		t.Errorf("P18.9: who is cut off gives timestamps")
	}
	w.cut = 0
	w.rounds(12)
	if old.peers[driverGroup].office != nil || told > 0 {
		t.Errorf("P18.9: its oracle is not gone, or %d were given", told)
	}
	w.stamp()
	w.settled()
}

// TestFirstWindow: P18.9: a new leader begins above all that others may have given.
func TestFirstWindow(t *testing.T) {
	w := calmWorld(t, 3)
	w.stamp()
	limit := w.driver().peers[driverGroup].driver.Limit()
	i := w.driver().store - 1
	w.crash(i)
	w.rounds(40)
	if ts := w.stamp(); ts <= limit {
		t.Errorf("P18.9: %d; up to %d may have been given", ts, limit)
	}
}

func TestDriverCommands(t *testing.T) { // what anybody may have done by the placement driver
	w := calmWorld(t, 3)
	do := func(c api.PdCmd) (api.PdResult, bool) {
		x, ok := w.once(w.driver().store, letter.Part{Kind: letter.AskDriver, Pd: c}, 2)
		return x.PdResult, ok
	}
	a, _ := do(api.PdCmd{Kind: api.PdID, N: 3})
	b, _ := do(api.PdCmd{Kind: api.PdID, N: 1})
	if a.N < 100 || b.N != a.N+3 {
		t.Errorf("numbers: %+v, %+v", a, b)
	}
	s := w.stamp()
	if r, ok := do(api.PdCmd{Kind: api.PdRegister, TS: s, TTL: 50}); !ok || r.Err != api.OK {
		t.Errorf("register: %+v", r)
	}
	if r, _ := do(api.PdCmd{Kind: api.PdSafe, TS: s + 10}); r.N != s-1 {
		t.Errorf("safe: %+v", r)
	}
	if r, _ := do(api.PdCmd{Kind: api.PdRelease, TS: s}); r.Err != api.OK {
		t.Errorf("release: %+v", r)
	}
	if r, _ := do(api.PdCmd{Kind: api.PdSafe, TS: s + 10}); r.N != s+10 {
		t.Errorf("safe: %+v", r)
	}
	if r, _ := do(api.PdCmd{Kind: api.PdRegister, TS: s, TTL: 50}); r.Err != api.ErrTooOld {
		t.Errorf("register below the safepoint: %+v", r)
	}
	if r, _ := do(api.PdCmd{Kind: api.PdMerge, N: 5, Region: w.eye.newest[2], Other: api.Region{ID: 77}}); r.Err != api.ErrArg {
		t.Errorf("a merge into what is not known: %+v", r)
	}
	clock := w.driver().peers[driverGroup].driver.Clock()
	for _, kind := range []int{0, -1, api.PdWindow, api.PdClock, api.PdStore, api.PdRegion, 11} {
		x := letter.Part{Kind: letter.AskDriver, Pd: api.PdCmd{Kind: kind, TS: 1 << 50, Store: 5}}
		if got := w.tell(4, w.driver().store, x); len(got) > 0 {
			t.Errorf("a client's command of the kind %d: %+v", kind, got)
		}
	}
	if got := w.driver().peers[driverGroup].driver.Clock(); got != clock {
		t.Errorf("a client sets the clock: %d was %d", got, clock)
	}
	// Who does not lead says nothing.
	for _, h := range w.hosts {
		if h.driverLeader() == nil {
			for _, kind := range []int{letter.AskTime, letter.AskDriver, letter.AskRegion, letter.AskMerge, letter.Store} {
				if got := w.tell(1+h.store%3, h.store, letter.Part{Kind: kind, Pd: api.PdCmd{Kind: api.PdID, N: 1}}); len(got) > 0 {
					t.Errorf("who does not lead answers: %+v", got)
				}
			}
		}
	}
	w.rounds(4)
	w.settled()
}

func TestWhereAKeyIs(t *testing.T) {
	w := calmWorld(t, 3)
	w.split(2, "m")
	w.rounds(20)
	for i, r := range w.alive() {
		x, ok := w.once(w.driver().store, letter.Part{Kind: letter.AskRegion, Key: []byte([]string{"a", "m"}[i])}, 2)
		if !ok || x.PdResult.Err != api.OK || !same(x.Region, r) || x.Leader != w.leader(r.ID).store {
			t.Errorf("%+v; want %+v", x, r)
		}
	}
	// What was told long ago comes late.
	r := w.eye.newest[2]
	d, lead := w.driver(), w.leader(2)
	x := letter.Part{Kind: letter.Region, Region: r, Term: lead.peers[2].Status().Term, Size: 7}
	old := []letter.Part{x, x}
	old[0].Term--
	old[1].Region.Epoch.Version--
	old[1].Term++
	for _, x := range old {
		w.tell(lead.store%3+1, d.store, x)
		if got := d.peers[driverGroup].office.sights[2]; got.store != lead.store || got.size == 7 || got.epoch != r.Epoch {
			t.Errorf("P18.11: behind %+v it is known as %+v", x, got)
		}
	}
	// As long as it is not known.
	w = newWorld(t, 1, setupOf(3))
	w.pass = func(from, _ int, x letter.Part) bool {
		return x.Kind != letter.Region && (from != 1 || x.Kind != letter.Message || x.Group != 2)
	}
	w.rounds(40)
	if w.driver() == w.leader(2) {
		t.Fatal("the region is told within a store")
	}
	if x, ok := w.once(w.driver().store, letter.Part{Kind: letter.AskRegion, Key: []byte("a")}, 2); !ok || x.PdResult.Err != api.ErrMiss || x.Region.ID != 0 || x.Leader != 0 {
		t.Errorf("of a key that no known region holds: %+v", x)
	}
}
