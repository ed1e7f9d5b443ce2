package host

import (
	"fmt"
	"testing"

	"regatta/api"
	"regatta/letter"
)

// TestPieces: P18.10: what is too long for one letter goes in pieces, which may be lost, doubled and late.
func TestPieces(t *testing.T) {
	w := calmWorld(t, 4)
	w.fill(8, "k") // some 170 kilobytes
	lead := w.leader(2)
	for range 2 * fewBehind {
		w.doCmd(2, api.Cmd{Kind: api.CmdFloor, Commit: 1})
	}
	if s := lead.peers[2].Status(); s.First == 2 {
		t.Fatalf("P18.10: nothing is compacted: %+v", s)
	}
	pieces, longest, lost := 0, 0, 0
	w.heard = func(_ int, l []api.Letter) {
		for _, x := range l {
			parts, _ := letter.Read(x.Data)
			for _, p := range parts {
				if p.Kind == letter.Piece {
					pieces++
					longest = max(longest, len(x.Data))
				}
			}
		}
	}
	seen := map[string]int{}
	w.pass = func(_, to int, x letter.Part) bool {
		if x.Kind != letter.Piece {
			return true
		}
		// The first two of each are lost, and the third comes.
		key := string(x.Data)
		seen[key]++
		if seen[key] < 3 {
			lost++
		}
		return seen[key] >= 3
	}
	w.order(api.Order{Kind: api.OrderAdd, Region: 2, Store: 4}, "")
	for range 40 {
		w.rounds(1)
		for range 5 {
			if len(w.way) > 1 {
				w.way = append(w.way, w.way[w.r.IntN(len(w.way))])
			}
		}
	}
	if pieces < 10 || longest > 2*pieceSize || lost == 0 {
		t.Errorf("P18.10: %d pieces, a letter of %d bytes, %d lost", pieces, longest, lost)
	}
	w.settled()
	if s, ok := w.hosts[3].State(2); !ok || s.Size() != lead.peers[2].state.Size() {
		t.Error("P18.10: the state did not come")
	}
}

// snapParts: the pieces of a snapshot of the region 2 as its leader would send it, with this term and index.
func (w *world) snapParts(to uint64, term, index uint64) []letter.Part {
	p := w.leader(2).peers[2]
	s, _ := stateOf(2, api.Snap{Index: p.applied, Data: p.export()})
	if index > s.Applied() {
		s.Skip(index)
	}
	h := &Host{setup: w.setup, store: p.view(1).Store}
	h.out = map[int][]letter.Part{}
	probe := *p
	probe.others = map[uint64]other{to: {store: 4}}
	h.store = 0
	h.mail(&probe, api.Message{Kind: api.MsgSnap, From: p.id, To: to, Term: term, Snap: api.Snap{Index: index, Term: p.Status().Term, Conf: p.Status().Conf, Data: s.Export()}})
	return h.out[4]
}

// TestStaged: P18.10: a newer snapshot takes an elder one's place, and one whose sender's term is over is forgotten.
func TestStaged(t *testing.T) {
	w := calmWorld(t, 4)
	w.fill(3, "k")
	h := w.hosts[3]
	term := w.leader(2).peers[2].Status().Term
	index := w.leader(2).peers[2].applied
	first := w.snapParts(70, term, index)
	second := w.snapParts(70, term, index+5)
	if len(first) < 3 || len(second) < 3 {
		t.Fatalf("%d and %d pieces", len(first), len(second))
	}
	give := func(l []letter.Part) {
		for _, x := range l {
			w.tell(1, 4, x)
		}
	}
	staged := func() uint64 {
		if p := h.peers[2]; p != nil && p.staged != nil {
			return p.staged.message.Snap.Index
		}
		return 0
	}
	give(first[1:])
	if staged() != index || h.peers[2].state != nil {
		t.Fatalf("P18.10: staged is %d", staged())
	}
	give(second[:1])
	if staged() != index+5 {
		t.Errorf("P18.10: staged is %d; want the newer one", staged())
	}
	give(first)
	if staged() != index+5 || h.peers[2].state != nil {
		t.Errorf("P18.10: an elder one takes its place")
	}
	// Its sender's term is over.
	w.tell(2, 4, vote(2, 5, 70, term+3))
	if staged() != 0 {
		t.Errorf("P18.10: one of an elder term is staged")
	}
	give(second)
	if h.peers[2].state != nil {
		t.Error("P18.10: one of an elder term is taken in")
	}
	third := w.snapParts(70, term+3, index+7)
	give(third[2:])
	w.tellTurned(third[0], first[0].Data)
	give(third[:2])
	if p := h.peers[2]; p.state == nil || p.applied != index+7 || staged() != 0 {
		t.Errorf("P18.10: the whole is not taken in")
	}
	// Again: nothing changes.
	before := textHost(h)
	give(third)
	give(first)
	if textHost(h) != before || staged() != 0 {
		t.Error("P18.10: an old snapshot is taken in")
	}
	w.crash(3)
	w.open(3)
}

// tellTurned: pieces of other bytes, and of what is no snapshot, do nothing.
func (w *world) tellTurned(good letter.Part, other []byte) {
	for _, turn := range []func(x *letter.Part){
		func(x *letter.Part) { x.Sum++ }, func(x *letter.Part) { x.Length++ }, func(x *letter.Part) { x.Length = 1 << 40 }, func(x *letter.Part) { x.Sum = 1 << 40 },
		func(x *letter.Part) { x.Data = nil }, func(x *letter.Part) { x.Data = other }, func(x *letter.Part) { x.Message.Kind = api.MsgAppend },
		func(x *letter.Part) { x.Message.Snap.Index = 1 << 62 }, func(x *letter.Part) { x.Message.Snap.Index = 1<<64 - 1 },
	} {
		x := good
		turn(&x)
		w.tell(1, 4, x)
		if w.hosts[3].peers[2].state != nil {
			w.fail("P18.10: taken in: %+v", x)
		}
	}
}

// TestWrongSnapshots: what the peer could not have is not taken in.
func TestWrongSnapshots(t *testing.T) {
	w := calmWorld(t, 4)
	good := w.snapParts(70, 9, 40)[0]
	for what, turn := range map[string]func(x *letter.Part){
		"another group": func(x *letter.Part) { x.Group = 7 },
		"another index": func(x *letter.Part) { x.Message.Snap.Index = 41 },
		"no members":    func(x *letter.Part) { x.Message.Snap.Conf = api.Conf{} },
		"a later term":  func(x *letter.Part) { x.Message.Snap.Term = 10 },
		"from a client": func(x *letter.Part) { x.Peer = 4 },
		"to the peer 0": func(x *letter.Part) { x.Message.To = 0 },
		"to the driver": func(x *letter.Part) { x.Group = 1 },
	} {
		x := good
		turn(&x)
		from := 1
		if what == "from a client" {
			from = 5
		}
		w.tell(from, 4, x)
		if l := w.hosts[3].Peers(); len(l) > 0 {
			t.Fatalf("P18.10: %s: %+v", what, l)
		}
		for group, p := range w.hosts[3].peers {
			if s := p.Status(); s.First != 1 || s.Commit != 0 {
				t.Errorf("P18.10: %s: the group %d has a snapshot: %+v", what, group, s)
			}
		}
	}
	good.Message.To = 80
	w.tell(1, 4, good)
	if l := w.hosts[3].Peers(); len(l) != 1 || l[0].Peer != 80 {
		t.Errorf("P18.10: a good one: %+v", l)
	}
}

// TestCompaction: P18.10: more than 64 entries that all have are given up, or 256 whoever lacks them.
func TestCompaction(t *testing.T) {
	t.Parallel()
	for _, all := range []bool{true, false} {
		t.Run(fmt.Sprint(all), func(t *testing.T) {
			w := calmWorld(t, 3)
			lead := w.leader(2)
			p := lead.peers[2]
			if !all {
				w.cut = lead.store%3 + 1
			}
			limit := uint64(256)
			if all {
				limit = 64
			}
			for p.applied < limit+1 {
				if s := p.Status(); s.First != 2 {
					t.Fatalf("P18.10: %d entries are behind %d", p.applied-1, s.First)
				}
				w.doCmd(2, api.Cmd{Kind: api.CmdFloor, Commit: 1})
			}
			w.doCmd(2, api.Cmd{Kind: api.CmdFloor, Commit: 1})
			w.rounds(2)
			if s := p.Status(); s.First < limit {
				t.Errorf("P18.10: %d entries, and the first is %d", s.Last, s.First)
			}
			w.cut = 0
			w.rounds(10)
			w.settled()
			for range 3 {
				for range farBehind {
					w.doCmd(2, api.Cmd{Kind: api.CmdFloor, Commit: 1})
				}
			}
			for _, h := range w.hosts {
				for _, p := range h.peers {
					if s := p.Status(); s.Last-s.First > farBehind+2 {
						t.Errorf("P18.10: the store %d has %d entries of the group %d", h.store, s.Last-s.First, p.group)
					}
				}
			}
		})
	}
}

// TestDiskStaysSmall: what is given up leaves the disk, too.
func TestDiskStaysSmall(t *testing.T) {
	t.Parallel()
	w := calmWorld(t, 3)
	for k := range 60 {
		w.rounds(40)
		w.doCmd(2, onePhase(w.stamp(), "a", fmt.Sprint(k)))
	}
	for i, d := range w.disks {
		if n := d.Size(); n > 1<<18 {
			t.Errorf("the disk of the store %d has %d bytes in %d files", i+1, n, len(d.Names()))
		}
		if n := len(d.Names()); n > 2*manyWrites {
			t.Errorf("the disk of the store %d has %d files", i+1, n)
		}
	}
	// One that is opened again and again doesn't forget to tidy.
	for range 40 {
		w.crash(0)
		w.open(0)
		w.rounds(20)
	}
	if n := len(w.disks[0].Names()); n > 2*manyWrites {
		t.Errorf("the disk of the store 1 has %d files", n)
	}
	w.settled()
}
