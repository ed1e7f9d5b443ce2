package host

import (
	"fmt"
	"math/rand/v2"
	"slices"
	"strings"
	"testing"

	"regatta/api"
	"regatta/disk"
	"regatta/letter"
	"regatta/region"
)

// world is stores and clients that are run in any way, and what was seen of them: whatever comes, it must fit.
type world struct {
	t        *testing.T
	r        *rand.Rand
	setup    api.Setup
	disks    []*disk.Disk
	hosts    []*Host                                // nil: down
	had      [][]string                             // by store: what its host may find when it is opened anew; none: anything
	before   string                                 // what a host had ahead of the call
	armed    []bool                                 // by store: its disk may die
	pass     func(from, to int, x letter.Part) bool // nil: all parts of letters go; else only those
	blind    bool                                   // letters are turned: nothing needs to fit
	heard    func(from int, l []api.Letter)         // nil: nobody listens
	scratch  bool                                   // what is handed in is overwritten behind the call
	parts    bool                                   // a call may keep so much that a part of it is there behind a crash
	way      []packet
	archive  []packet        // letters that may come once more
	cut      int             // a store that is cut off from all others; 0: none
	pairs    map[[2]int]bool // stores that are cut off from one another, the lesser number first
	clients  []*client
	eye      eye
	clocks   [founders]uint64  // the placement driver's, as it was when it was looked at
	given    map[uint64]bool   // timestamps
	commits  map[uint64]uint64 // by start: what was answered as committed
	answered uint64            // the greatest of these
	trail    []string
	counts   map[string]int
	step     int
}

type packet struct {
	from int
	api.Letter
}

// eye is what was seen.
type eye struct {
	leaders   map[[2]uint64]uint64       // by region and term
	last      map[[2]uint64]api.PeerView // by store and peer
	states    map[[2]uint64]string       // by region and index: what was applied
	drivers   map[uint64]string          // by index: what the placement driver's state was
	newest    map[uint64]api.Region      // by number
	swallowed map[uint64]bool
	bound     map[uint64]int // by merge: 1 if a region was frozen by it, 2 if one was held, 3 if both were
	clock     uint64
	safe      uint64
	limit     uint64
	seen      [api.MaxStores]uint64
}

func newWorld(t *testing.T, seed uint64, s api.Setup) *world {
	w := &world{t: t, r: rand.New(rand.NewPCG(seed, 18)), setup: s, counts: map[string]int{}, given: map[uint64]bool{}, commits: map[uint64]uint64{}}
	w.eye = eye{map[[2]uint64]uint64{}, map[[2]uint64]api.PeerView{}, map[[2]uint64]string{}, map[uint64]string{}, map[uint64]api.Region{}, map[uint64]bool{}, map[uint64]int{}, 0, 0, 0, [api.MaxStores]uint64{}}
	for i := range s.Stores {
		w.disks, w.hosts, w.had, w.armed = append(w.disks, disk.New()), append(w.hosts, nil), append(w.had, nil), append(w.armed, false)
		w.open(i)
	}
	for i := range s.Clients {
		w.clients = append(w.clients, newClient(w, s.Stores+1+i))
	}
	return w
}

func (w *world) fail(format string, a ...any) {
	w.t.Helper()
	w.t.Fatalf("step %d: %s", w.step, fmt.Sprintf(format, a...))
}

// open: a host over the store's disk; false, if the disk dies.
func (w *world) open(i int) bool {
	h, e := Open(i+1, w.setup, w.disks[i])
	if e == api.ErrDead && w.disks[i].Dead() {
		return false
	}
	if e != api.OK {
		w.fail("Open(%d): error %d", i+1, e)
	}
	w.hosts[i] = h
	if l := w.had[i]; len(l) > 0 && !w.parts && !slices.Contains(l, textHost(h)) {
		w.fail("P18.12: the store %d was\n%s\nand is\n%s", i+1, strings.Join(l, "\nor\n"), textHost(h))
	}
	w.had[i] = nil
	w.look(i)
	return true
}

// textHost tells all that must stay.
func textHost(h *Host) string {
	var out []string
	for _, group := range h.groups() {
		p := h.peers[group]
		s := p.Status()
		if s.Term == 0 {
			continue // a blank one that has not promised anything
		}
		data := ""
		if p.state != nil || p.driver != nil {
			data = string(p.export())
		}
		out = append(out, fmt.Sprintf("group %d peer %d term %d vote %d commit %d first %d last %d conf %v at %d entries %v applied %d: %q", group, p.id, s.Term, s.Vote, s.Commit, s.First, s.Last, s.Conf, s.ConfIndex, p.Entries(0, s.Last+1), p.applied, data))
	}
	return strings.Join(out, "\n")
}

// done: a host has answered.
func (w *world) done(i int, l []api.Letter, e api.Errno) {
	w.step++
	if e == api.ErrDead && w.disks[i].Dead() {
		if len(l) > 0 {
			w.fail("P18.2: %d letters beside an error", len(l))
		}
		_, tick := w.hosts[i].Tick()
		_, receive := w.hosts[i].Receive(1, nil)
		_, order := w.hosts[i].Order(api.Order{}, nil)
		if tick != api.ErrDead || receive != api.ErrDead || order != api.ErrDead {
			w.fail("P18.2: a host that is over: errors %d, %d, %d", tick, receive, order)
		}
		w.had[i] = []string{w.before, textHost(w.hosts[i])}
		w.hosts[i] = nil
		w.counts["died"]++
		return
	}
	if e != api.OK && !w.blind {
		w.fail("the store %d: error %d", i+1, e)
	}
	if w.heard != nil {
		w.heard(i+1, l)
	}
	for _, x := range l {
		if w.pass != nil {
			x.Data = w.sifted(i+1, x)
		}
		w.way = append(w.way, packet{i + 1, x})
	}
	w.look(i)
}

// sifted: the letter with those parts that may pass.
func (w *world) sifted(from int, x api.Letter) []byte {
	l, ok := letter.Read(x.Data)
	if !ok {
		w.fail("a letter that is none")
	}
	return letter.Write(slices.DeleteFunc(l, func(p letter.Part) bool { return !w.pass(from, x.To, p) }))
}

// remember: what the host has ahead of a call in which the disk may die.
func (w *world) remember(h *Host) {
	w.before = ""
	if w.armed[h.store-1] {
		w.before = textHost(h)
	}
}

func (w *world) tick(i int) {
	if h := w.hosts[i]; h != nil {
		w.remember(h)
		l, e := h.Tick()
		w.done(i, l, e)
	}
}

func (w *world) deliver(p packet) {
	if w.cut != 0 && p.from != p.To && (p.from == w.cut || p.To == w.cut) || w.pairs[pair(p.from, p.To)] {
		return
	}
	if p.To > w.setup.Stores {
		if c := p.To - w.setup.Stores - 1; c < len(w.clients) {
			w.clients[c].receive(p)
		} else {
			w.fail("a letter to %d", p.To)
		}
		return
	}
	if h := w.hosts[p.To-1]; h != nil {
		w.remember(h)
		l, e := h.Receive(p.from, p.Data)
		if w.scratch {
			clear(p.Data)
		}
		w.done(p.To-1, l, e)
	}
}

func pair(a, b int) [2]int { return [2]int{min(a, b), max(a, b)} }

func (w *world) take(at int) packet {
	p := w.way[at]
	w.way = slices.Delete(w.way, at, at+1)
	return p
}

func (w *world) crash(i int) {
	var keep []int
	for range w.r.IntN(4) {
		keep = append(keep, w.r.IntN(300))
	}
	if h := w.hosts[i]; h != nil {
		w.had[i] = []string{textHost(h)}
	}
	w.hosts[i] = nil
	w.disks[i].Crash(keep)
	w.armed[i] = false
	w.counts["crashes"]++
}

func (w *world) order(o api.Order, key string) {
	for i, h := range w.hosts {
		if h != nil {
			w.remember(h)
			l, e := h.Order(o, []byte(key))
			w.done(i, l, e)
		}
	}
}

// rounds lets time go by for all, and delivers all letters.
func (w *world) rounds(n int) {
	for range n {
		for i := range w.hosts {
			w.tick(i)
		}
		for _, c := range w.clients {
			c.tick()
		}
		for k := 0; len(w.way) > 0; k++ {
			if k > 20000 {
				w.fail("letters without an end: %s", w.wayText())
			}
			w.deliver(w.take(0))
		}
	}
}

// anyRounds: in any order.
func (w *world) anyRounds(n int) {
	for range n {
		for _, i := range w.r.Perm(len(w.hosts)) {
			w.tick(i)
			for range w.r.IntN(4) {
				if len(w.way) > 0 {
					w.deliver(w.take(w.r.IntN(len(w.way))))
				}
			}
		}
		for _, c := range w.clients {
			c.tick()
		}
		for k := 0; len(w.way) > 0; k++ {
			if k > 20000 {
				w.fail("letters without an end: %s", w.wayText())
			}
			w.deliver(w.take([]int{0, len(w.way) - 1, w.r.IntN(len(w.way))}[w.r.IntN(3)]))
		}
	}
}

// calm: all are up, and nothing is lost from now on.
func (w *world) calm() {
	w.cut, w.pairs = 0, nil
	for i := range w.hosts {
		if w.hosts[i] == nil {
			w.disks[i].Crash(nil)
			if !w.open(i) {
				w.fail("a disk that is not armed died")
			}
		}
		w.disks[i].Arm(1 << 40)
		w.armed[i] = false
	}
}

func (w *world) wayText() string {
	var out []string
	for _, p := range w.way {
		l, _ := letter.Read(p.Data)
		for _, x := range l {
			out = append(out, fmt.Sprintf("%d>%d kind %d group %d message %+v", p.from, p.To, x.Kind, x.Group, x.Message))
		}
	}
	return strings.Join(out, "\n")
}

// look holds what a store shows against what was seen.
func (w *world) look(i int) {
	h := w.hosts[i]
	if w.blind {
		h.Peers()
		return
	}
	last := uint64(0)
	for _, v := range h.Peers() {
		if v.Region.ID <= last || v.Store != i+1 {
			w.fail("P18.3: the store %d: %+v", i+1, v)
		}
		last = v.Region.ID
		w.see(h, v)
	}
	if h.Driver(); h.peers[driverGroup] != nil {
		w.seeDriver(h)
	}
	w.partition()
}

func (w *world) see(h *Host, v api.PeerView) {
	e := &w.eye
	r := v.Region
	if region.Check(r) != api.OK {
		w.fail("a region %+v", r)
	}
	if p, there := region.On(r, v.Store); there && p.ID != v.Peer && has(r, v.Peer) {
		w.fail("the peer %d is on another store: %+v", v.Peer, r)
	}
	if v.Role == api.RoleLeader {
		at := [2]uint64{r.ID, v.Term}
		if was := e.leaders[at]; was != 0 && was != v.Peer {
			w.fail("W3: %d and %d lead the region %d in the term %d", was, v.Peer, r.ID, v.Term)
		}
		e.leaders[at] = v.Peer
	}
	at := [2]uint64{uint64(v.Store), v.Peer}
	was, known := e.last[at]
	if known && (was.Term > v.Term || was.Applied > v.Applied || was.Commit > v.Commit || region.Newer(was.Region.Epoch, r.Epoch) || was.Region.Epoch.Conf > r.Epoch.Conf) {
		w.fail("P18.12: %+v was %+v", v, was)
	}
	if v.Applied != v.Commit {
		w.fail("P18.5: not all that is known committed is applied: %+v", v)
	}
	s, ok := h.State(r.ID)
	if !ok || s.Applied() != v.Applied || !same(s.Region(), r) {
		w.fail("P18.3: the state of the region %d, and %+v", r.ID, v)
	}
	if !known || was.Applied != v.Applied {
		w.seeState([2]uint64{r.ID, v.Applied}, string(s.Export()))
	}
	e.last[at] = v
	for _, id := range v.Swallowed {
		e.swallowed[id] = true
		if h.peers[id] != nil {
			w.fail("P18.7: the region %d, and %d that has swallowed it, are both on the store %d", id, r.ID, v.Store)
		}
	}
	if id := s.Frozen(); id != 0 {
		e.bound[id] |= 1
	}
	if id := s.Held(); id != 0 {
		e.bound[id] |= 2
	}
	newest, told := e.newest[r.ID]
	switch {
	case !told || region.Newer(r.Epoch, newest.Epoch):
		e.newest[r.ID] = r
	case r.Epoch == newest.Epoch && !same(r, newest):
		w.fail("W4: %+v and %+v", r, newest)
	}
}

func same(a, b api.Region) bool { return string(region.Encode(a)) == string(region.Encode(b)) }

func (w *world) seeState(at [2]uint64, s string) {
	if was, known := w.eye.states[at]; known && was != s {
		w.fail("W3: two states of the region %d behind the entry %d", at[0], at[1])
	}
	w.eye.states[at] = s
}

func (w *world) seeDriver(h *Host) {
	d, ok := h.Driver()
	if !ok {
		w.fail("P18.3: no Driver")
	}
	p := h.peers[driverGroup]
	if p.applied == w.eye.seen[h.store-1] {
		return
	}
	w.eye.seen[h.store-1] = p.applied
	s := string(d.Export())
	if was, known := w.eye.drivers[p.applied]; known && was != s {
		w.fail("W3: two states of the placement driver behind the entry %d", p.applied)
	}
	w.eye.drivers[p.applied] = s
	if st := p.Status(); st.Commit != p.applied {
		w.fail("P18.5: the placement driver's peer has applied %d of %d", p.applied, st.Commit)
	}
	for id := uint64(100); id < 400; id++ {
		_, _, status := d.Merge(id)
		if status == api.MergeCommit && w.eye.bound[id] != 3 && w.setup.Stores > 1 { // one store alone does all in one call
			w.fail("P18.7: the merge %d is decided, but not both regions are bound by it (%d)", id, w.eye.bound[id])
		}
		if status == api.MergeBack && w.eye.swallowed[id] {
			w.fail("P18.7: the merge %d came about, and is given up", id)
		}
	}
}

// partition: W4.
func (w *world) partition() {
	var l []api.Region
	for id, r := range w.eye.newest {
		if !w.eye.swallowed[id] {
			l = append(l, r)
		}
	}
	if !region.Partition(l) {
		w.fail("W4: %+v", l)
	}
}
