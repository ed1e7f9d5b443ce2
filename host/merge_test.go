package host

import (
	"testing"

	"regatta/api"
	"regatta/letter"
	"regatta/region"
)

// mergeWorld: the region 2, cut at m, is to be one again; the number of the right one.
func mergeWorld(t *testing.T, stores int) (*world, uint64) {
	t.Helper()
	w := calmWorld(t, stores)
	w.split(2, "m")
	w.rounds(20)
	return w, w.alive()[1].ID
}

func (w *world) merge(source, target uint64) {
	w.order(api.Order{Kind: api.OrderMerge, Region: source, Other: target}, "")
}

// bound: how many peers of the regions are frozen, and how many are held.
func (w *world) bound() (int, int) {
	frozen, held := 0, 0
	for _, h := range w.hosts {
		for _, p := range h.peers {
			if p.state != nil && p.state.Frozen() != 0 {
				frozen++
			}
			if p.state != nil && p.state.Held() != 0 {
				held++
			}
		}
	}
	return frozen, held
}

func TestMerge(t *testing.T) { // P18.7
	for stores := 1; stores <= 4; stores++ {
		for _, left := range []bool{true, false} {
			w, right := mergeWorld(t, stores)
			source, target := right, uint64(2)
			if left {
				source, target = 2, right
			}
			a, b := w.eye.newest[target], w.eye.newest[source]
			w.merge(source, target)
			w.rounds(20)
			l := w.alive()
			want, _ := region.Merge(a, b)
			if len(l) != 1 || !same(l[0], want) {
				t.Fatalf("P18.7: %+v; want %+v", l, want)
			}
			for i := range min(stores, 3) {
				if p := w.hosts[i].peers[source]; p != nil {
					t.Errorf("P18.7: the source's peer on the store %d is here", i+1)
				}
				if n := w.hosts[i].buried(source); n == 0 {
					t.Errorf("P18.4: the source's peer on the store %d is not buried", i+1)
				}
			}
			w.settled()
		}
	}
}

// TestMergeIsGivenUp: P18.7: where the source's data do not come, nothing comes of the merge, and both are free again.
func TestMergeIsGivenUp(t *testing.T) {
	w, right := mergeWorld(t, 3)
	l := w.alive()
	w.order(api.Order{Kind: api.OrderLeader, Region: right, Store: w.leader(2).store%3 + 1}, "") // so that the data go in a letter
	w.rounds(20)
	blocked := 0
	w.pass = func(_, _ int, x letter.Part) bool {
		if x.Kind == letter.Source {
			blocked++
		}
		return x.Kind != letter.Source
	}
	w.merge(right, 2)
	w.rounds(20)
	if frozen, held := w.bound(); frozen != 3 || held != 3 || blocked == 0 {
		t.Fatalf("P18.7: %d are frozen, %d are held, the data went %d times", frozen, held, blocked)
	}
	w.rounds(80)
	if frozen, held := w.bound(); frozen != 0 || held != 0 {
		t.Errorf("P18.7: %d are frozen, %d are held", frozen, held)
	}
	w.settled()
	if got := w.alive(); len(got) != 2 || !same(got[0], l[0]) || !same(got[1], l[1]) {
		t.Errorf("P18.7: %+v was %+v", got, l)
	}
	w.pass = nil
	w.merge(right, 2)
	w.rounds(20)
	if got := w.alive(); len(got) != 1 {
		t.Errorf("P18.7: it does not come about later, either: %+v", got)
	}
	w.settled()
}

// TestMergeBehindCommit: P18.7: what is decided comes about, whoever is lost on the way.
func TestMergeBehindCommit(t *testing.T) {
	for _, lost := range []string{"target", "source", "both", "driver", "all"} {
		t.Run(lost, func(t *testing.T) {
			w, right := mergeWorld(t, 3)
			decided := uint64(0)
			w.pass = func(_, to int, x letter.Part) bool {
				for _, h := range w.hosts {
					if h == nil {
						continue
					}
					for id := uint64(100); id < 140; id++ {
						if _, _, status := h.peers[driverGroup].driver.Merge(id); status == api.MergeCommit {
							decided = id
						}
					}
				}
				// From the decision on the target's leader hears nothing more.
				return decided == 0 || w.hosts[to-1] == nil || w.hosts[to-1].leading(2) == nil
			}
			w.merge(right, 2)
			for range 30 {
				if w.rounds(1); decided != 0 {
					break
				}
			}
			if decided == 0 {
				t.Fatal("it is not decided")
			}
			if _, held := w.bound(); held == 0 {
				t.Skip("it is done already")
			}
			var out []int
			switch lost {
			case "target":
				out = []int{w.leader(2).store}
			case "source":
				out = []int{w.leader(right).store}
			case "both":
				out = []int{w.leader(2).store, w.leader(right).store}
			case "driver":
				out = []int{w.driver().store}
			case "all":
				out = []int{1, 2, 3}
			}
			w.pass = nil
			for _, store := range out {
				w.crash(store - 1)
			}
			w.rounds(1)
			w.calm()
			w.rounds(100)
			if l := w.alive(); len(l) != 1 {
				t.Errorf("P18.7: %+v", l)
			}
			w.settled()
		})
	}
}

// TestSourceGoes: P18.7: the source's peers that did not see the merge learn of it.
func TestSourceGoes(t *testing.T) {
	for _, frozen := range []bool{true, false} {
		for _, away := range []bool{true, false} { // away: the target is there no more when they ask
			w, right := mergeWorld(t, 5)
			lead := w.driver().store
			late := lead%3 + 1
			for _, id := range []uint64{2, right} {
				w.order(api.Order{Kind: api.OrderLeader, Region: id, Store: lead}, "")
				w.rounds(20)
			}
			w.pass = func(_, to int, x letter.Part) bool {
				mine := x.Group == 2 || x.Group == right && !frozen || x.Kind == letter.Gone || x.Kind == letter.Merge
				return to != late || !mine
			}
			w.merge(right, 2)
			w.rounds(12)
			if len(w.alive()) != 1 {
				t.Fatal("it does not come about")
			}
			p := w.hosts[late-1].peers[right]
			if p == nil || (p.state.Frozen() != 0) != frozen {
				t.Fatalf("the source's peer (frozen %v, away %v): %+v", frozen, away, p)
			}
			if away {
				w.order(api.Order{Kind: api.OrderRemove, Region: 2, Store: late}, "")
				w.rounds(60)
			}
			w.pass = func(_, to int, x letter.Part) bool { return to != late || !away || x.Group != 2 }
			w.rounds(60)
			if w.hosts[late-1].peers[right] != nil {
				t.Errorf("P18.7: the source's peer is here (frozen %v, away %v)", frozen, away)
			}
			w.pass = nil
			w.rounds(60)
			w.settled()
		}
	}
}

func TestMergesThatAreNone(t *testing.T) { // P18.7
	w := calmWorld(t, 4)
	for _, key := range []string{"c", "m", "x"} {
		w.split(w.alive()[len(w.alive())-1].ID, key)
		w.rounds(12)
	}
	l := w.alive()
	w.merge(l[0].ID, l[2].ID) // no neighbours
	w.rounds(20)
	w.order(api.Order{Kind: api.OrderAdd, Region: l[1].ID, Store: 4}, "")
	w.rounds(20)
	w.merge(l[1].ID, l[0].ID) // not on the same stores
	w.rounds(20)
	if len(w.alive()) != 4 {
		t.Errorf("P18.7: %+v", w.alive())
	}
	w.settled()
	// All at one time: each comes about, or nothing of it.
	w.merge(l[0].ID, l[1].ID)
	w.merge(l[2].ID, l[3].ID)
	w.merge(l[3].ID, l[2].ID)
	w.rounds(100)
	if n := len(w.alive()); n < 2 || n > 4 {
		t.Errorf("P18.7: %+v", w.alive())
	}
	w.settled()
}

// TestMergeLetters: P18.7: what each side makes of what it is told.
func TestMergeLetters(t *testing.T) {
	w, right := mergeWorld(t, 3)
	d := w.driver().store
	lead := d%3 + 1 // so that what is asked of the driver goes in letters
	for _, id := range []uint64{2, right} {
		w.order(api.Order{Kind: api.OrderLeader, Region: id, Store: lead}, "")
		w.rounds(20)
	}
	target, source := w.eye.newest[2], w.eye.newest[right]
	old := target
	old.Epoch.Version--
	back := func(what string, x letter.Part) {
		t.Helper()
		got := w.tell(d, lead, x)[letter.AskDriver]
		if len(got) == 0 || got[0].Pd.Kind != api.PdDecide || got[0].Pd.N != 900 || got[0].Pd.Commit {
			t.Errorf("P18.7: %s: %+v", what, got)
		}
	}
	back("a target of another epoch", letter.Part{Kind: letter.Merge, N: 900, Region: source, Other: old, Status: api.MergeOpen})
	old = source
	old.Epoch.Conf++
	back("a source of another epoch", letter.Part{Kind: letter.Pull, N: 900, Region: old})
	before := textHost(w.hosts[lead-1])
	for _, x := range []letter.Part{
		{Kind: letter.Merge, N: 900, Region: source, Other: target, Status: api.MergeCommit},
		{Kind: letter.Merge, N: 900, Region: source, Other: target, Status: api.MergeBack},
		{Kind: letter.Merge, N: 900, Region: source, Other: target, Status: api.MergeBack, Swallowed: true}, // it is not frozen by that one
		{Kind: letter.Merge, Region: source, Other: target, Status: api.MergeOpen},
		{Kind: letter.Pull, Region: source},
		{Kind: letter.Source, Cmd: api.Cmd{Kind: api.CmdAbsorb, ID: 900, Region: source}},
		{Kind: letter.Source, Cmd: api.Cmd{Kind: api.CmdAbsorb, Region: source}},
		{Kind: letter.Gone, Group: right, Peer: 77},
		{Kind: letter.Gone, Group: 77, Peer: 77},
	} {
		if got := w.tell(d, lead, x); len(got) > 0 || textHost(w.hosts[lead-1]) != before {
			t.Errorf("P18.7: %+v does something: %+v", x, got)
		}
	}
	// A source that is frozen, and is told that the merge came about.
	for _, h := range w.hosts {
		if h.store != lead {
			w.tell(lead, h.store, letter.Part{Kind: letter.Pull, N: 900, Region: source}) // who does not lead does nothing
		}
	}
	w.tell(d, lead, letter.Part{Kind: letter.Pull, N: 900, Region: source})
	w.rounds(2)
	if frozen, held := w.bound(); frozen != 3 || held != 0 {
		t.Fatalf("%d are frozen, %d are held", frozen, held)
	}
	x := letter.Part{Kind: letter.Merge, N: 901, Region: source, Other: target, Status: api.MergeCommit, Swallowed: true}
	if w.tell(d, lead, x); w.hosts[lead-1].peers[right] == nil {
		t.Error("P18.7: it goes by another merge")
	}
	x.N = 900
	if w.tell(d, lead, x); w.hosts[lead-1].peers[right] != nil || w.hosts[lead-1].buried(right) == 0 {
		t.Error("P18.7: it does not go")
	}
}

// TestSwallowedIsNobody: where it is known that a region is in another one, no peer of it comes any more.
func TestSwallowedIsNobody(t *testing.T) {
	w, right := mergeWorld(t, 4)
	w.merge(right, 2)
	w.rounds(20)
	w.order(api.Order{Kind: api.OrderAdd, Region: 2, Store: 4}, "")
	w.rounds(20)
	got := w.tell(1, 4, vote(right, 101, 500, 9))
	if l := got[letter.Gone]; len(got) != 1 || len(l) != 1 || l[0].Group != right || l[0].Peer != 101 || w.hosts[3].peers[right] != nil {
		t.Errorf("P18.7: %+v", got)
	}
	// Of one that is buried nothing is said.
	for _, h := range w.hosts[:3] {
		if got := w.tell(4, h.store, vote(right, 500, h.buried(right), 9)); len(got) > 0 {
			t.Errorf("P18.4: a buried one is answered for: %+v", got)
		}
	}
	w.settled()
}
