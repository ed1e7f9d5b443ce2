package host

import (
	"fmt"
	"testing"

	"regatta/api"
	"regatta/letter"
	"regatta/state"
	"regatta/vault"
)

// calmWorld: stores that have come to rest.
func calmWorld(t *testing.T, stores int) *world {
	t.Helper()
	w := newWorld(t, 9, setupOf(stores))
	w.rounds(40)
	return w
}

// tell hands a part to a store as if another one had sent it; the answer's parts by kind.
func (w *world) tell(from, to int, x letter.Part) map[int][]letter.Part {
	w.t.Helper()
	l, e := w.hosts[to-1].Receive(from, letter.Write([]letter.Part{x}))
	w.done(to-1, l, e)
	out := map[int][]letter.Part{}
	for _, y := range l {
		parts, _ := letter.Read(y.Data)
		for _, p := range parts {
			out[p.Kind] = append(out[p.Kind], p)
		}
	}
	return out
}

// vote is a message that any peer answers.
func vote(group, from, to, term uint64) letter.Part {
	return letter.Part{Kind: letter.Message, Group: group, Message: api.Message{Kind: api.MsgVote, From: from, To: to, Term: term, Index: 1 << 20, LogTerm: term}}
}

// replies: the groups' messages among what was answered.
func replies(l []letter.Part, group uint64) []api.Message {
	var out []api.Message
	for _, x := range l {
		if x.Group == group {
			out = append(out, x.Message)
		}
	}
	return out
}

func TestBlank(t *testing.T) { // P18.4: a message to a peer of a region that is not here makes a blank one
	w := calmWorld(t, 4)
	h := w.hosts[3]
	got := replies(w.tell(1, 4, vote(2, 4, 50, 7))[letter.Message], 2)
	if len(got) != 1 || got[0].Kind != api.MsgVoteReply || got[0].From != 50 || got[0].To != 4 || got[0].Refused || got[0].Term != 7 {
		t.Fatalf("P18.4: a blank peer answers %+v", got)
	}
	if _, ok := h.State(2); ok || len(h.Peers()) != 0 {
		t.Errorf("P18.3: a blank peer is told: %+v", h.Peers())
	}
	// It has promised something, which stays.
	w.crash(3)
	w.open(3)
	h = w.hosts[3]
	if p := h.peers[2]; p == nil || p.id != 50 || p.Status().Term != 7 || p.Status().Vote != 4 {
		t.Fatalf("P18.12: a blank peer behind a crash: %+v", p)
	}
	got = replies(w.tell(2, 4, vote(2, 5, 50, 7))[letter.Message], 2)
	if len(got) != 1 || !got[0].Refused {
		t.Errorf("P18.12: it votes twice: %+v", got)
	}
	// A lesser number is nobody; with a greater one the peer that is here goes.
	if got := w.tell(1, 4, vote(2, 4, 49, 9)); len(got) > 0 {
		t.Errorf("P18.4: a lesser number is answered: %+v", got)
	}
	if got = replies(w.tell(1, 4, vote(2, 4, 51, 9))[letter.Message], 2); len(got) != 1 || got[0].From != 51 {
		t.Errorf("P18.4: a greater number: %+v", got)
	}
	if got := w.tell(1, 4, vote(2, 4, 50, 10)); len(got) > 0 {
		t.Errorf("P18.4: a peer that went is answered for: %+v", got)
	}
	w.crash(3)
	w.open(3)
	if n, e := vault.Buried(w.hosts[3].engine, 2); n != 50 || e != api.OK {
		t.Errorf("P18.4: buried is %d", n)
	}
	if got := w.tell(1, 4, vote(2, 4, 50, 11)); len(got) > 0 || w.hosts[3].peers[2].id != 51 {
		t.Errorf("P18.4: behind a crash a peer that went is answered for: %+v", got)
	}
	// The placement driver is where it is.
	for _, group := range []uint64{0, 1} {
		if got := w.tell(1, 4, vote(group, 1, 60, 9)); len(got) > 0 || w.hosts[3].peers[group] != nil {
			t.Errorf("P18.4: a peer of the group %d came: %+v", group, got)
		}
	}
	if got := w.tell(1, 4, vote(7, 4, 0, 9)); len(got) > 0 || w.hosts[3].peers[7] != nil {
		t.Errorf("P18.4: the peer 0 came: %+v", got)
	}
}

func TestGreaterNumberTakesThePlace(t *testing.T) { // P18.4: of a peer that has a state
	w := calmWorld(t, 3)
	w.cut = 3
	h := w.hosts[2]
	if got := w.tell(1, 3, vote(2, 4, 90, 5)); len(got[letter.Message]) != 1 {
		t.Fatalf("P18.4: %+v", got)
	}
	if len(h.Peers()) != 0 || h.peers[2].id != 90 {
		t.Errorf("P18.4: the one that was here stays: %+v", h.Peers())
	}
	if got := w.tell(1, 3, vote(2, 4, 6, 9)); len(got) > 0 {
		t.Errorf("P18.4: a peer that went is answered for: %+v", got)
	}
	w.crash(2)
	w.open(2)
	if h = w.hosts[2]; h.peers[2].id != 90 || h.peers[2].state != nil {
		t.Errorf("P18.4: behind a crash: %+v", h.Peers())
	}
	if _, there, _ := h.engine.Get(append(vault.Data(2), 'p')); !there {
		t.Error("P18.4: its number is not kept")
	}
}

func TestGoesByItsOwnLog(t *testing.T) { // P18.4: who applies a configuration without itself goes
	w := calmWorld(t, 3)
	lead := w.leader(2).store
	w.order(api.Order{Kind: api.OrderRemove, Region: 2, Store: lead}, "")
	w.rounds(6) // the leader itself knows it at once
	h := w.hosts[lead-1]
	if len(h.Peers()) != 0 || h.peers[2] != nil {
		t.Fatalf("P18.4: the leader that went is here: %+v", h.Peers())
	}
	if s, there, _ := vault.Load(h.engine, 2); there {
		t.Errorf("P18.4: something is kept of it: %+v", s)
	}
	if n, _ := vault.Buried(h.engine, 2); n != uint64(3+lead) {
		t.Errorf("P18.4: buried is %d", n)
	}
	w.rounds(4)
	if next := w.leader(2).store; next == lead {
		t.Error("nobody else leads")
	}
	w.settled()
}

// TestIsTold: P18.4: who was cut off when it was taken out is told so, in answer to its own asks, however long that is ago.
func TestIsTold(t *testing.T) {
	for _, all := range []bool{false, true} { // all: the others that it knew have gone, too
		t.Run(fmt.Sprint(all), func(t *testing.T) {
			w := calmWorld(t, 5)
			out := w.hosts[w.leader(2).store%3].store // one that does not lead
			w.cut = out
			w.order(api.Order{Kind: api.OrderRemove, Region: 2, Store: out}, "")
			w.rounds(30)
			if all {
				for _, store := range []int{4, 5} {
					w.order(api.Order{Kind: api.OrderAdd, Region: 2, Store: store}, "")
					w.rounds(30)
				}
				for store := 1; store <= 3; store++ {
					w.order(api.Order{Kind: api.OrderRemove, Region: 2, Store: store}, "")
					w.rounds(30)
				}
			}
			if l := w.hosts[out-1].Peers(); len(l) != 1 {
				t.Fatalf("it is gone already: %+v", l)
			}
			w.cut = 0
			w.rounds(60)
			if l := w.hosts[out-1].Peers(); len(l) != 0 {
				t.Errorf("P18.4: it is here still: %+v", l)
			}
			w.settled()
		})
	}
}

// TestLeftLeader: a leader that is cut off, and taken out by the others, goes, too.
func TestLeftLeader(t *testing.T) {
	w := calmWorld(t, 5)
	out := w.leader(2).store
	w.cut = out
	w.rounds(40)
	w.order(api.Order{Kind: api.OrderRemove, Region: 2, Store: out}, "")
	w.rounds(30)
	for _, store := range []int{4, 5, 1, 2, 3} {
		kind := api.OrderRemove
		if store > 3 {
			kind = api.OrderAdd
		}
		if store != out {
			w.order(api.Order{Kind: kind, Region: 2, Store: store}, "")
			w.rounds(30)
		}
	}
	if l := w.eye.newest[2].Peers; len(l) != 2 || l[0].Store < 4 || l[1].Store < 4 {
		t.Fatalf("one that knew the old leader is there still: %+v", l)
	}
	if w.hosts[out-1].leading(2) == nil {
		t.Fatal("who is cut off does not lead any more")
	}
	w.cut = 0
	w.rounds(60)
	w.settled()
}

// TestNewcomerStays: P18.4: one that comes by a snapshot of before its time does not go by what it applies, and is not
// told to go by who has not heard of it yet.
func TestNewcomerStays(t *testing.T) {
	w := calmWorld(t, 4)
	lead := w.leader(2)
	// The newcomer gets its snapshot, but no entries: so it knows a configuration without itself.
	w.pass = func(from, to int, x letter.Part) bool {
		_, there := w.hosts[3].State(2)
		return !there || to != 4 || x.Group != 2 || x.Kind != letter.Message || x.Message.Kind != api.MsgAppend
	}
	w.order(api.Order{Kind: api.OrderAdd, Region: 2, Store: 4}, "")
	w.rounds(60)
	l := w.hosts[3].Peers()
	if len(l) != 1 || has(l[0].Region, l[0].Peer) || !has(lead.peers[2].state.Region(), l[0].Peer) {
		t.Fatalf("P18.4: the newcomer is %+v; the region is %+v", l, lead.peers[2].state.Region())
	}
	// One whose members are newer than the newcomer's, but elder than its coming, must not tell it to go.
	p := lead.peers[2]
	if p.outlives(l[0].Peer, w.hosts[3].peers[2].newest()) {
		t.Error("P18.4: a newcomer is told to go")
	}
	w.pass = nil
	w.rounds(20)
	w.settled()
}

// TestNewcomerGoes: one that was taken out again ahead of its coming to its own configuration goes, too.
func TestNewcomerGoes(t *testing.T) {
	for _, what := range []string{"taken out", "never in"} {
		t.Run(what, func(t *testing.T) {
			w := calmWorld(t, 4)
			lead := w.leader(2).store
			w.pass = func(from, to int, x letter.Part) bool {
				if _, there := w.hosts[3].State(2); to == 4 && there && x.Group == 2 && x.Kind == letter.Message && x.Message.Kind == api.MsgAppend {
					return false
				}
				// What makes it a member comes to nobody.
				isConf := len(x.Message.Entries) > 0 && x.Message.Entries[len(x.Message.Entries)-1].Kind == api.EntryConf
				return what != "never in" || from != lead || to == 4 || !isConf
			}
			w.order(api.Order{Kind: api.OrderAdd, Region: 2, Store: 4}, "")
			w.rounds(12)
			l := w.hosts[3].Peers()
			if len(l) != 1 || has(l[0].Region, l[0].Peer) {
				t.Fatalf("P18.4: the newcomer is %+v", l)
			}
			if what == "never in" {
				w.cut = lead
			} else {
				w.order(api.Order{Kind: api.OrderRemove, Region: 2, Store: 4}, "")
			}
			w.rounds(40)
			if l := w.alive(); len(l[0].Peers) != 3 {
				t.Fatalf("%+v", l)
			}
			w.cut, w.pass = 0, nil
			w.rounds(60)
			if l := w.hosts[3].Peers(); len(l) != 0 {
				t.Errorf("P18.4: it is here still: %+v", l)
			}
			w.settled()
		})
	}
}

// TestHome: where a peer is, though the part of the log that says so is not applied.
func TestHome(t *testing.T) {
	w := calmWorld(t, 3)
	p := w.hosts[0].peers[2]
	saved := api.Saved{Hard: api.Hard{Term: 5, Commit: 1}, Snap: api.Snap{Index: 1, Term: 1, Conf: api.Conf{Voters: []uint64{4, 5, 6}}, Data: w.hosts[0].peers[2].export()}}
	for i, c := range []api.Cmd{{Kind: api.CmdFloor}, {Kind: api.CmdPeers, Peers: []api.Peer{{ID: 150, Store: 4}}}, {Kind: api.CmdSplit, Peers: []api.Peer{{ID: 151, Store: 3}}}} {
		saved.Entries = append(saved.Entries, api.Entry{Kind: api.EntryData, Term: 5, Index: uint64(i) + 2, Data: state.EncodeCmd(c)})
	}
	q, e := newPeer(2, 4, saved)
	if e != api.OK {
		t.Fatal(e)
	}
	q.state, q.applied = p.state, 1
	q.others[77] = other{store: 2}
	for id, want := range map[uint64]int{4: 1, 5: 2, 6: 3, 150: 4, 151: 0, 152: 0, 77: 2, 0: 0} {
		if got := q.home(id); got != want {
			t.Errorf("home(%d): %d; want %d", id, got, want)
		}
	}
	d := w.hosts[0].peers[driverGroup]
	for id := range uint64(4) {
		if got := d.home(id); got != int(id) {
			t.Errorf("home(%d) of the driver's: %d", id, got)
		}
	}
}

func TestNewest(t *testing.T) { // P18.4: what a peer tells of its members
	w := calmWorld(t, 3)
	p := w.hosts[0].peers[2]
	if n := p.newest(); n != 1 {
		t.Errorf("of a member: %d; want 1", n)
	}
	if n := (&peer{}).newest(); n != 0 {
		t.Errorf("of a blank one: %d; want 0", n)
	}
	for _, x := range []struct {
		asker, newest uint64
		want          bool
	}{{4, 1, false}, {5, 0, false}, {77, 0, false}, {77, 1, false}, {77, 2, false}} {
		if got := p.outlives(x.asker, x.newest); got != x.want {
			t.Errorf("outlives(%d, %d): %v at the Conf 1", x.asker, x.newest, got)
		}
	}
	w.order(api.Order{Kind: api.OrderRemove, Region: 2, Store: 3}, "")
	w.rounds(40)
	for _, x := range []struct {
		asker, newest uint64
		want          bool
	}{{4, 1, false}, {6, 0, false}, {6, 1, true}, {6, 2, true}, {6, 3, false}, {77, 2, true}, {77, 3, false}} {
		if got := w.hosts[0].peers[2].outlives(x.asker, x.newest); got != x.want {
			t.Errorf("outlives(%d, %d): %v at the Conf 3", x.asker, x.newest, got)
		}
	}
}

// TestUnlikeNumbers: P8.16 asks for numbers that are unlike modulo election.
func TestUnlikeNumbers(t *testing.T) {
	t.Parallel()
	for _, x := range []struct {
		number uint64
		peers  []api.Peer
		want   uint64
	}{
		{100, nil, 100},
		{100, []api.Peer{{ID: 4}, {ID: 5}}, 100},
		{104, []api.Peer{{ID: 4}, {ID: 5}}, 106},
		{109, []api.Peer{{ID: 9}, {ID: 100}, {ID: 11}}, 112},
	} {
		if got := unlike(x.number, x.peers); got != x.want {
			t.Errorf("unlike(%d, %+v): %d; want %d", x.number, x.peers, got, x.want)
		}
	}
	w := calmWorld(t, 5)
	for range 12 {
		r := w.eye.newest[2]
		for store := 1; store <= 5; store++ {
			w.order(api.Order{Kind: api.OrderAdd, Region: 2, Store: store}, "")
			w.rounds(12)
		}
		r = w.eye.newest[2]
		seen := map[uint64]bool{}
		for _, p := range r.Peers {
			if seen[p.ID%election] || p.Learner {
				t.Fatalf("%+v", r)
			}
			seen[p.ID%election] = true
		}
		for k := range 2 {
			w.order(api.Order{Kind: api.OrderRemove, Region: 2, Store: 1 + (int(r.Epoch.Conf)+k*2)%5}, "")
			w.rounds(40)
		}
	}
	w.settled()
}
