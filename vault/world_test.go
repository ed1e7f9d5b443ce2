package vault

import (
	"fmt"
	"math/rand/v2"
	"slices"
	"strings"
	"testing"

	"regatta/api"
	"regatta/disk"
	"regatta/engine"
	"regatta/raft"
)

// world is stores with a peer of each group, which are run in any way over what the vault keeps of them.
type world struct {
	t      *testing.T
	r      *rand.Rand
	stores []*store
	net    []letter
	cut    uint64 // the store that is cut off from all others; 0: none
	counts map[string]int
}

type store struct {
	disk   *disk.Disk
	engine *engine.Engine
	peers  map[uint64]*peer
}

// peer is one of a group, and what it was told to keep.
type peer struct {
	*raft.Node
	saved api.Saved
}

type letter struct {
	group uint64
	api.Message
}

var manyGroups = []uint64{1, 2, 1<<63 + 255}

func stateAt(index uint64) string {
	return strings.Repeat(fmt.Sprint("state at ", index, " "), int(index%40))
}

func newWorld(t *testing.T, seed uint64) *world {
	w := &world{t: t, r: rand.New(rand.NewPCG(seed, 9)), counts: map[string]int{}}
	for i := range 4 {
		s := &store{disk: disk.New(), peers: map[uint64]*peer{}}
		s.engine = opened(t, s.disk)
		for _, group := range manyGroups {
			first := api.Ready{Hard: hard(1, 0, 1), Snap: snap(1, 1, "1 2 3", stateAt(1))}
			if i == 3 { // a blank one
				first = api.Ready{}
			}
			write(t, s.engine, Save(group, first))
			s.peers[group] = &peer{saved: keep(api.Saved{}, first)}
		}
		w.stores = append(w.stores, s)
		w.begin(i)
	}
	return w
}

// begin: all peers of a store are made of what is kept there.
func (w *world) begin(i int) {
	s := w.stores[i]
	tells(w.t, "a store", s.engine, manyGroups...)
	for _, group := range manyGroups {
		saved, _, code := Load(s.engine, group)
		want(w.t, "Load", code, api.OK)
		n, code := raft.New(uint64(i+1), saved, 4, 1)
		if code != api.OK {
			w.t.Fatalf("P9.5: New of what is kept: error %d: %s", code, textSaved(saved))
		}
		s.peers[group].Node = n
	}
}

// wantPeer: what is kept is what the peer has, and New of it is such a peer.
func (w *world) wantPeer(i int, group uint64) {
	p := w.stores[i].peers[group]
	loads(w.t, "P9.5", w.stores[i].engine, group, p.saved)
	saved, _, _ := Load(w.stores[i].engine, group)
	n, code := raft.New(uint64(i+1), saved, 4, 1)
	want(w.t, "P9.5: New", code, api.OK)
	if got, is := textPeer(n), textPeer(p.Node); got != is {
		w.t.Fatalf("P9.5: the peer of what is kept is\n%s; it was\n%s", got, is)
	}
}

// textPeer tells all of a peer that stays, when it begins anew.
func textPeer(n *raft.Node) string {
	s := n.Status()
	s.Leader, s.Role = 0, 0
	return fmt.Sprint(s, textSaved(api.Saved{Entries: n.Entries(0, greatest)}))
}

// any does one thing of any kind to any peer, and keeps what comes of it.
func (w *world) any() {
	i, group := w.r.IntN(len(w.stores)), manyGroups[w.r.IntN(len(manyGroups))]
	switch k := w.r.IntN(1000); {
	case k < 600 && len(w.net) > 0:
		at := w.r.IntN(min(9, len(w.net)))
		m := w.net[at]
		w.net = slices.Delete(w.net, at, at+1)
		i, group = int(m.To)-1, m.group
		want(w.t, "Step", w.stores[i].peers[group].Step(m.Message), api.OK)
	case k < 800:
		w.stores[i].peers[group].Tick()
	case k < 900:
		i = w.leader(i, group)
		w.ask(i, group)
	case k < 960:
		w.compact(i, group)
	case k < 961:
		w.net = nil
	case k < 963:
		w.cut = uint64(w.leader(i, group) + 1)
	case k < 964:
		w.cut = 0
	case k < 968:
		w.counts["armed"]++
		w.stores[i].disk.Arm(w.r.IntN(3))
	case k < 972:
		w.crash(i)
		return
	case k < 976:
		if w.stores[i].engine.Compact() != api.OK {
			w.crash(i)
		}
		return
	}
	if w.r.IntN(3) > 0 {
		w.ready(i, group)
	}
}

// leader: a store whose peer thinks that it leads; or else this one.
func (w *world) leader(or int, group uint64) int {
	var l []int
	for i, s := range w.stores {
		if s.peers[group].Status().Role == api.RoleLeader {
			l = append(l, i)
		}
	}
	if len(l) == 0 {
		return or
	}
	return l[w.r.IntN(len(l))]
}

func (w *world) ask(i int, group uint64) {
	p := w.stores[i].peers[group].Node
	if w.r.IntN(20) == 0 {
		p.Change([]api.Change{{Kind: 1 + w.r.IntN(3), Peer: 1 + uint64(w.r.IntN(len(w.stores)))}})
		return
	}
	p.Propose([]byte(strings.Repeat("x", w.r.IntN(60))))
}

func (w *world) compact(i int, group uint64) {
	p := w.stores[i].peers[group].Node
	if s := p.Status(); s.Commit >= s.First {
		index := s.First + uint64(w.r.IntN(int(s.Commit-s.First)+1))
		want(w.t, "Compact", p.Compact(index, []byte(stateAt(index))), api.OK)
	}
}

// ready keeps what the peer tells to keep, ahead of sending what it says.
func (w *world) ready(i int, group uint64) {
	s := w.stores[i]
	p := s.peers[group]
	r := p.Ready()
	next := keep(p.saved, r)
	if r.New {
		w.count(p.saved, r)
		if code := s.engine.Write(Save(group, r)); code != api.OK {
			w.died(i, group, next)
			return
		}
		p.saved = next
		w.wantPeer(i, group)
	}
	for _, m := range r.Messages {
		if w.r.IntN(12) > 0 && m.To <= uint64(len(w.stores)) && m.To != w.cut && m.From != w.cut {
			w.net = append(w.net, letter{group, m})
		}
	}
	for len(w.net) > 300 {
		w.net = slices.Delete(w.net, 0, 1+w.r.IntN(20))
	}
}

func (w *world) count(s api.Saved, r api.Ready) {
	if r.Snap.Index != 0 {
		w.counts["snapshots"]++
	}
	if r.Emptied {
		w.counts["emptied"]++
	}
	if len(r.Entries) > 0 {
		w.counts["entries"]++
	}
	if len(r.Entries) > 0 && len(s.Entries) > 0 && r.Entries[0].Index <= s.Entries[len(s.Entries)-1].Index {
		w.counts["replaced"]++
	}
}

// died: the step was not answered as kept; it is there wholly, or not at all.
func (w *world) died(i int, group uint64, next api.Saved) {
	w.counts["died"]++
	s := w.stores[i]
	s.engine = reopened(w.t, w.r, s.disk)
	got, _, code := Load(s.engine, group)
	want(w.t, "Load behind a crash", code, api.OK)
	if textSaved(got) == textSaved(next) {
		s.peers[group].saved = next
	}
	w.again(i)
}

func (w *world) crash(i int) {
	w.counts["crashes"]++
	w.stores[i].engine = reopened(w.t, w.r, w.stores[i].disk)
	w.again(i)
}

func (w *world) again(i int) {
	for _, group := range manyGroups {
		loads(w.t, "P9.6: behind a crash", w.stores[i].engine, group, w.stores[i].peers[group].saved)
	}
	w.begin(i)
}

func TestPeersOverTheVault(t *testing.T) { // P9.5, P9.6
	sum := map[string]int{}
	for seed := range uint64(12) {
		w := newWorld(t, seed)
		for step := 0; step < 6000 && !t.Failed(); step++ {
			w.any()
		}
		for what, count := range w.counts {
			sum[what] += count
		}
	}
	for _, what := range []string{"entries", "replaced", "snapshots", "emptied", "crashes", "died"} {
		if sum[what] < 20 && !t.Failed() {
			t.Errorf("%d %s: what is done is chosen badly: %v", sum[what], what, sum)
		}
	}
}
