package host

import (
	"bytes"
	"fmt"
	"slices"
	"testing"

	"regatta/api"
	"regatta/disk"
	"regatta/letter"
	"regatta/region"
	"regatta/state"
)

// spreadWorld: as mergeWorld; the placement driver, the target 2 and the source are led by three stores, so that what
// they tell one another goes in letters.
func spreadWorld(t *testing.T, stores int) (*world, uint64) {
	t.Helper()
	w, right := mergeWorld(t, stores)
	w.spread(2, right)
	return w, right
}

func (w *world) spread(target, source uint64) {
	d := w.driver().store
	w.order(api.Order{Kind: api.OrderLeader, Region: target, Store: d%3 + 1}, "")
	w.order(api.Order{Kind: api.OrderLeader, Region: source, Store: (d+1)%3 + 1}, "")
	w.rounds(20)
	if w.driver().store != d || w.leader(target).store != d%3+1 || w.leader(source).store != (d+1)%3+1 {
		w.fail("the leaders are not where they should be")
	}
}

// confs: who belongs to the two groups, as their leaders have it.
func (w *world) confs(l ...uint64) string {
	var out []api.Conf
	for _, id := range l {
		out = append(out, w.leader(id).peers[id].Status().Conf)
	}
	return fmt.Sprint(out)
}

// TestBound: P18.6: where a merge has frozen or held a region, nobody comes to it or goes, and it is not split.
func TestBound(t *testing.T) {
	w, right := spreadWorld(t, 5)
	w.cut = 4
	for _, id := range []uint64{2, right} { // learners that do not vote yet, as they have nothing
		w.order(api.Order{Kind: api.OrderAdd, Region: id, Store: 4}, "")
	}
	w.rounds(12)
	w.pass = func(_, _ int, x letter.Part) bool { return x.Kind != letter.Source }
	w.merge(right, 2)
	w.rounds(8)
	if frozen, held := w.bound(); frozen != 3 || held != 3 {
		t.Fatalf("P18.7: %d are frozen, %d are held", frozen, held)
	}
	for i, h := range w.hosts[:3] {
		if l := h.Peers(); len(l) != 2 || l[0].Frozen || !l[1].Frozen {
			t.Errorf("P18.3: frozen is %d alone; the store %d tells %+v", right, i+1, l)
		}
	}
	l, confs := w.alive(), w.confs(2, right)
	w.cut = 0
	for _, id := range []uint64{2, right} {
		w.order(api.Order{Kind: api.OrderAdd, Region: id, Store: 5}, "")
		w.order(api.Order{Kind: api.OrderRemove, Region: id, Store: 1}, "")
		w.order(api.Order{Kind: api.OrderPromote, Region: id, Store: 4}, "")
	}
	w.split(2, "c")
	w.split(right, "x")
	for range 12 {
		w.rounds(1)
		if got := w.confs(2, right); got != confs {
			t.Fatalf("P18.6: bound by a merge %s became %s", confs, got)
		}
	}
	if frozen, held := w.bound(); frozen < 3 || held < 3 || !slices.EqualFunc(w.alive(), l, same) {
		t.Fatalf("P18.6: %d are frozen, %d are held: %+v was %+v", frozen, held, w.alive(), l)
	}
	w.pass = nil
	w.rounds(120)
	w.settled()
}

// TestAbsorbBehindCommit: P18.7: only when the placement driver's log says so, the target takes anything in.
func TestAbsorbBehindCommit(t *testing.T) {
	w, right := spreadWorld(t, 3)
	asked := 0
	w.pass = func(_, _ int, x letter.Part) bool {
		isCommit := x.Kind == letter.AskDriver && x.Pd.Kind == api.PdDecide && x.Pd.Commit
		if isCommit {
			asked++
		}
		return !isCommit
	}
	w.merge(right, 2)
	w.rounds(24)
	if frozen, held := w.bound(); frozen != 3 || held != 3 || asked == 0 {
		t.Fatalf("P18.7: %d are frozen, %d are held, the commit was asked for %d times", frozen, held, asked)
	}
	p := w.leader(2).peers[2]
	for _, x := range p.Entries(0, p.Status().Last+1) {
		if c, code := state.DecodeCmd(x.Data); x.Kind == api.EntryData && code == api.OK && c.Kind == api.CmdAbsorb {
			t.Errorf("P18.7: it is proposed ahead of the decision: %+v", c)
		}
	}
	w.rounds(60)
	if frozen, held := w.bound(); frozen != 0 || held != 0 || len(w.alive()) != 2 {
		t.Errorf("P18.7: %d are frozen, %d are held", frozen, held)
	}
	w.settled()
}

// TestFrozenAsks: P18.7: who did not hear what became of the merge asks.
func TestFrozenAsks(t *testing.T) {
	w, right := spreadWorld(t, 3)
	source := w.leader(right).store
	deaf := false
	w.pass = func(_, to int, x letter.Part) bool {
		if frozen, _ := w.bound(); frozen == 3 {
			deaf = true
		}
		return x.Kind != letter.Source && !(x.Kind == letter.Merge && to == source && deaf)
	}
	w.merge(right, 2)
	w.rounds(70)
	if frozen, held := w.bound(); frozen != 3 || held != 0 {
		t.Fatalf("P18.7: %d are frozen, %d are held", frozen, held)
	}
	w.pass = nil
	w.rounds(20)
	if frozen, _ := w.bound(); frozen != 0 {
		t.Errorf("P18.7: %d are frozen", frozen)
	}
	w.settled()
}

// drain delivers all letters, while no clock goes on.
func (w *world) drain() {
	for len(w.way) > 0 {
		w.deliver(w.take(0))
	}
}

// TestLateOpen: P18.7: who knows that a merge is decided is not misled by what was said ahead of that.
func TestLateOpen(t *testing.T) {
	w, right := spreadWorld(t, 3)
	d, target := w.driver(), w.leader(2)
	p := target.peers[2]
	var open letter.Part
	w.pass = func(_, _ int, x letter.Part) bool {
		if x.Kind == letter.Merge && x.Status == api.MergeOpen {
			open = x
		}
		return x.Kind != letter.AskDriver || !x.Pd.Commit
	}
	w.merge(right, 2)
	w.rounds(8)
	if _, held := w.bound(); held != 3 || p.office.union.cmd == nil {
		t.Fatalf("P18.7: %d are held; %+v", held, p.office.union)
	}
	// The decision comes while something is proposed, and not applied: so the target takes nothing in yet.
	w.pass = func(_, _ int, x letter.Part) bool { return x.Kind != letter.Message || x.Group != 2 }
	c := put(3, "a", "1")
	c.Epoch = w.epoch(2)
	w.tell(4, target.store, letter.Part{Kind: letter.AskCmd, Tag: letter.Tag{Seq: 1 << 40}, Group: 2, Cmd: c})
	w.rounds(6)
	if u := p.office.union; u.status != api.MergeCommit || p.free() {
		t.Fatalf("P18.7: %+v", u)
	}
	w.tell(d.store, target.store, open)
	w.pass = nil
	w.rounds(20)
	if l := w.alive(); len(l) != 1 {
		t.Errorf("P18.7: %+v", l)
	}
	w.settled()
}

// TestOracleBehindAll: P18.9: a leader that has not applied yet what stood in its log when it began gives nothing.
func TestOracleBehindAll(t *testing.T) {
	w := calmWorld(t, 3)
	w.stamp()
	old := w.driver()
	next, third := old.store%3+1, (old.store+1)%3+1
	p, q := old.peers[driverGroup], w.hosts[next-1].peers[driverGroup]
	for w.rounds(1); p.Status().Last != q.Status().Commit; {
		w.rounds(1)
	}
	var last uint64
	take := func(n uint64) {
		for range n {
			w.clients[0].ask(old.store, letter.Part{Kind: letter.AskTime}, func(x letter.Part) { last = max(last, x.TS) })
		}
		w.drain()
	}
	for o := p.office.oracle; o.Last() < o.Limit(); {
		take(min(o.Limit()-o.Last(), maxWaits/2))
	}
	// The next leader gets the entry of a wider window, and does not hear that it is committed.
	limit := last
	w.pass = func(_, to int, x letter.Part) bool {
		return to != next || x.Group != driverGroup || x.Message.Commit <= q.Status().Commit
	}
	take(1)
	if last != limit+1 || q.Status().Last == q.applied || q.driver.Limit() != limit {
		t.Fatalf("P18.9: %d is given behind %d; the next leader is at %d of %d", last, limit, q.applied, q.Status().Last)
	}
	w.cut = old.store
	w.pass = func(_, to int, x letter.Part) bool { return to != next || x.Message.Kind != api.MsgAppendReply }
	for range election {
		w.tick(third - 1)
	}
	for k := 0; q.office == nil; k++ {
		if k > 3*election {
			t.Fatal("it does not lead")
		}
		w.tick(next - 1)
		w.drain()
	}
	for range 3 * governEach {
		w.tick(next - 1)
		w.drain()
	}
	if q.office == nil || q.applied >= q.office.first || q.office.oracle != nil {
		t.Fatalf("P18.9: at the entry %d it gives timestamps: %+v", q.applied, q.office)
	}
	w.cut, w.pass = 0, nil
	w.rounds(30)
	if ts := w.stamp(); ts <= last {
		t.Errorf("P18.9: %d is given behind %d", ts, last)
	}
}

// TestBlankTakesNoEntries: a peer without a state has nothing that entries could be done to.
func TestBlankTakesNoEntries(t *testing.T) {
	w := calmWorld(t, 4)
	h := w.hosts[3]
	m := api.Message{Kind: api.MsgAppend, From: 4, To: 60, Term: 9, Commit: 1, Entries: []api.Entry{{Kind: api.EntryData, Term: 9, Index: 1, Data: []byte("x")}}}
	w.tell(1, 4, letter.Part{Kind: letter.Message, Group: 2, Message: m})
	if p := h.peers[2]; p == nil || p.Status().Last != 0 || p.state != nil || len(h.Peers()) != 0 {
		t.Errorf("P18.4: a blank peer takes entries: %+v", p)
	}
	// And it is a newcomer: nobody tells it to go.
	w.tell(1, 4, letter.Part{Kind: letter.Gone, Group: 2, Peer: 60})
	if p := h.peers[2]; p == nil || p.id != 60 || h.buried(2) != 0 {
		t.Errorf("P18.4: a blank peer is told to go: %+v", p)
	}
}

// TestOrdersOfThePlan: P18.11: what the placement driver wants is not done behind something else.
func TestOrdersOfThePlan(t *testing.T) {
	w := calmWorld(t, 4)
	lead := w.driver().store%3 + 1
	w.order(api.Order{Kind: api.OrderLeader, Region: 2, Store: lead}, "")
	w.rounds(20)
	p := w.leader(2).peers[2]
	w.pass = func(_, _ int, x letter.Part) bool { return x.Kind != letter.AskDriver }
	w.order(api.Order{Kind: api.OrderAdd, Region: 2, Store: 4}, "") // it gets no number
	w.tell(w.driver().store, lead, letter.Part{Kind: letter.Order, Order: api.Order{Kind: api.OrderRemove, Region: 2, Store: lead}, Epoch: w.epoch(2)})
	if n := len(p.office.tasks); n != 1 {
		t.Errorf("P18.11: %d orders wait", n)
	}
	w.pass = nil
	w.rounds(20)
	if r := w.eye.newest[2]; len(r.Peers) != 4 {
		t.Errorf("P18.11: %+v", r)
	}
	w.settled()
}

// TestAskedOnce: what was replied to is not asked again.
func TestAskedOnce(t *testing.T) {
	w := calmWorld(t, 3)
	w.spreadLeader(2)
	w.rounds(20)
	asks := 0
	w.pass = func(_, _ int, x letter.Part) bool {
		if x.Kind == letter.AskTime || x.Kind == letter.AskDriver {
			asks++
		}
		return true
	}
	w.rounds(40)
	if asks > 0 {
		t.Errorf("%d asks in a calm in which nothing is wanted", asks)
	}
}

// spreadLeader: the region is led by another store than the placement driver.
func (w *world) spreadLeader(id uint64) {
	w.order(api.Order{Kind: api.OrderLeader, Region: id, Store: w.driver().store%3 + 1}, "")
	w.rounds(20)
}

// TestGreatHalves: what does not fit into one part of the log is neither split off nor merged, and no store is lost by it.
func TestGreatHalves(t *testing.T) {
	t.Parallel()
	w := newWorld(t, 3, setupOf(3))
	w.rounds(40)
	w.fill(30, "b")
	w.split(2, "a")
	w.rounds(20)
	if l := w.alive(); len(l) != 1 {
		t.Fatalf("more is split off than a new peer could begin with: %+v", l)
	}
	w.splitAndDie("b002", "b001")
	w.rounds(40)
	l := w.alive()
	if len(l) != 3 {
		t.Fatalf("P18.6: %+v", l)
	}
	w.merge(l[2].ID, l[1].ID)
	w.rounds(60)
	if got := w.alive(); !slices.EqualFunc(got, l, same) {
		t.Errorf("more is merged than goes in one entry: %+v", got)
	}
	w.settled()
	w.merge(l[1].ID, l[2].ID)
	w.rounds(60)
	w.merge(2, l[2].ID)
	w.rounds(60)
	if got := w.alive(); len(got) != 1 {
		t.Errorf("P18.7: %+v", got)
	}
	w.settled()
	w.agree()
}

// splitAndDie: a store that does not lead hears of all splits at one time, and dies at each of the writes by which it
// keeps that: P18.2, what is kept is a right store.
func (w *world) splitAndDie(keys ...string) {
	late := w.leader(2).store%3 + 1
	h := w.hosts[late-1]
	twin := copyOf(w.disks[late-1])
	var come []packet
	was := w.pass
	deaf := true
	w.pass = func(_, to int, x letter.Part) bool {
		return !deaf || to != late || x.Group <= driverGroup
	}
	keep := func() {
		for len(w.way) > 0 && len(h.Peers()) < 1+len(keys) {
			x := w.take(0)
			if x.To == late {
				come = append(come, packet{x.from, api.Letter{To: x.To, Data: bytes.Clone(x.Data)}})
			}
			w.deliver(x)
		}
	}
	for _, key := range keys {
		w.split(2, key)
	}
	keep()
	if len(h.Peers()) != 1 || len(w.alive()) != 1+len(keys) {
		w.fail("P18.6: %+v, and on the store %d %+v", w.alive(), late, h.Peers())
	}
	deaf = false
	for k := 0; len(h.Peers()) < 1+len(keys); k++ {
		if k > 9 {
			w.fail("P18.6: it is not split")
		}
		w.tick(w.leader(2).store - 1)
		keep()
	}
	w.pass = was
	for n := 0; w.splitKept(late, twin, come, n); n++ {
		if n > 100 {
			w.fail("P18.2: there is no end of what is kept")
		}
	}
}

func copyOf(d *disk.Disk) *disk.Disk {
	twin := disk.New()
	for _, name := range d.Names() {
		b, _ := d.Read(name)
		twin.Write(name, b)
		twin.Sync(name)
	}
	return twin
}

// splitKept: a store over a copy of the disk is told the letters, and dies behind so many writes in the last of them;
// false, if it does not.
func (w *world) splitKept(store int, was *disk.Disk, come []packet, n int) bool {
	d := copyOf(was)
	h, e := Open(store, w.setup, d)
	if e != api.OK {
		w.fail("Open: error %d", e)
	}
	for i, p := range come {
		if i == len(come)-1 {
			d.Arm(n)
		}
		_, e = h.Receive(p.from, p.Data)
	}
	died := e == api.ErrDead
	d.Crash([]int{1 << 16})
	if h, e = Open(store, w.setup, d); e != api.OK {
		w.fail("P18.12: Open: error %d", e)
	}
	var l []api.Region
	for _, v := range h.Peers() {
		l = append(l, v.Region)
	}
	if !region.Partition(l) || !died && len(l) != len(w.alive()) {
		w.fail("P18.2: behind %d writes there are %+v", n, l)
	}
	return died
}
