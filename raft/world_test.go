package raft

import (
	"fmt"
	"math/rand/v2"
	"slices"
	"testing"

	"regatta/api"
	"regatta/conf"
)

// world is peers that are run in any way, and what was seen of them: whatever comes, it must fit.
type world struct {
	t              *testing.T
	r              *rand.Rand
	election, beat int
	ids            []uint64
	peers          map[uint64]*seen
	net            []api.Message
	cut            uint64            // a peer that is cut off from all others; 0: none
	truth          map[uint64]fact   // what was told as committed, by index
	furthest       uint64            // the greatest index that anybody has told to be known committed
	leaders        map[uint64]uint64 // by term
	reads          map[uint64]uint64 // by context: what was known committed ahead of the call
	counts         map[string]int
	step           int
}

// fact is an entry that was told as committed, and the least term of a peer that told it.
type fact struct {
	entry string
	term  uint64
	conf  string // the configuration up to it
}

// seen is a peer, what it was told to keep, and how it stood when it was looked at last.
type seen struct {
	*Node
	saved   api.Saved
	applied uint64
	conf    string // the configuration up to applied
	last    api.Status
}

func stateAt(index uint64) []byte { return []byte(fmt.Sprint("state at ", index)) }

// newWorld: of peers with these numbers the first voters begin a group; the others are blank.
func newWorld(t *testing.T, seed uint64, election, beat int, ids []uint64, voters int) *world {
	w := &world{t: t, r: rand.New(rand.NewPCG(seed, 8)), election: election, beat: beat, ids: ids, peers: map[uint64]*seen{}, truth: map[uint64]fact{}, leaders: map[uint64]uint64{}, reads: map[uint64]uint64{}, counts: map[string]int{}}
	first := api.Conf{Voters: slices.Sorted(slices.Values(ids[:voters]))}
	for i, id := range ids {
		p := &seen{}
		if i < voters {
			p.saved = api.Saved{Hard: api.Hard{Term: 1, Commit: 1}, Snap: api.Snap{Index: 1, Term: 1, Conf: first, Data: stateAt(1)}}
		}
		w.peers[id] = p
		w.open(id)
	}
	w.truth[1] = fact{entry: "", term: 1, conf: textConf(first)}
	w.furthest = 1
	return w
}

func (w *world) fail(format string, a ...any) {
	w.t.Helper()
	w.t.Fatalf("step %d: %s", w.step, fmt.Sprintf(format, a...))
}

// open: the peer begins with what is kept of it.
func (w *world) open(id uint64) {
	p := w.peers[id]
	n, e := New(id, p.saved, w.election, w.beat)
	if e != api.OK {
		w.fail("P8.2: New(%d) of what it was told to keep: error %d: %+v", id, e, p.saved)
	}
	p.Node, p.last = n, n.Status()
	p.applied, p.conf = p.saved.Snap.Index, textConf(p.saved.Snap.Conf)
	if s := n.Status(); s.Term != p.saved.Hard.Term || s.Vote != p.saved.Hard.Vote || s.Commit != p.saved.Hard.Commit || s.Leader != 0 || s.Role != api.RoleFollower || s.Last != p.saved.Snap.Index+uint64(len(p.saved.Entries)) {
		w.fail("P8.2: New(%d): %+v of %+v", id, s, p.saved)
	}
}

// look holds what a peer shows against what it has shown.
func (w *world) look(id uint64) {
	p := w.peers[id]
	was, s := p.last, p.Status()
	p.last = s
	if s.Term < was.Term || s.Commit < was.Commit || s.Term == was.Term && was.Vote != 0 && s.Vote != was.Vote {
		w.fail("P8.15: the peer %d: %+v was %+v", id, s, was)
	}
	if was.Role == api.RoleLeader && s.Last < was.Last && s.Term == was.Term {
		w.fail("P8.15: the leader %d has taken out entries: %+v was %+v", id, s, was)
	}
	if s.Commit > s.Last || s.Commit+1 < s.First {
		w.fail("the peer %d: %+v", id, s)
	}
	if s.Role != api.RoleLeader {
		return
	}
	if s.Leader != id || s.Vote != id {
		w.fail("the leader %d: %+v", id, s)
	}
	if other := w.leaders[s.Term]; other != 0 && other != id {
		w.fail("P8.14: %d and %d lead in the term %d", other, id, s.Term)
	}
	if w.leaders[s.Term] == 0 {
		w.counts["leaders"]++
	}
	w.leaders[s.Term] = id
	if was.Role != api.RoleLeader || was.Term != s.Term {
		w.lookAtLog(id)
	}
}

// lookAtLog: a new leader has all that was told as committed in an elder term.
func (w *world) lookAtLog(id uint64) {
	s := w.peers[id].Status()
	l := w.peers[id].Entries(s.First, s.Last+1)
	for index, f := range w.truth {
		if f.term < s.Term && index >= s.First && (index > s.Last || text(l[index-s.First]) != f.entry) {
			w.fail("P8.14: the leader %d of the term %d lacks %q", id, s.Term, f.entry)
		}
	}
}

// keep does what P8.13 asks of whoever keeps what a peer tells.
func keep(s *api.Saved, r api.Ready) {
	s.Hard = r.Hard
	if r.Snap.Index != 0 {
		s.Snap = r.Snap
		s.Entries = slices.DeleteFunc(s.Entries, func(x api.Entry) bool { return r.Emptied || x.Index <= r.Snap.Index })
	}
	if len(r.Entries) > 0 {
		s.Entries = slices.DeleteFunc(s.Entries, func(x api.Entry) bool { return x.Index >= r.Entries[0].Index })
		s.Entries = append(s.Entries, r.Entries...)
	}
}

// same: are the entries the same in all that they have?
func same(a, b api.Entry) bool {
	return a.Kind == b.Kind && a.Term == b.Term && a.Index == b.Index && string(a.Data) == string(b.Data) && slices.Equal(a.Conf.Voters, b.Conf.Voters) && slices.Equal(a.Conf.Old, b.Conf.Old) && slices.Equal(a.Conf.Learners, b.Conf.Learners)
}

// ready keeps what the peer tells to keep, looks at the rest, and answers its messages.
func (w *world) ready(id uint64) []api.Message {
	p := w.peers[id]
	r := p.Ready()
	before := p.saved.Hard
	keep(&p.saved, r)
	w.furthest = max(w.furthest, r.Hard.Commit)
	if r.Snap.Index != 0 {
		w.counts["snapshots"]++
		if r.Emptied {
			w.counts["emptied"]++
		}
		w.wantSnap(id, r.Snap)
		if r.Snap.Index > p.applied {
			p.applied, p.conf = r.Snap.Index, textConf(r.Snap.Conf)
		}
	}
	if r.New != (r.Hard != before || r.Snap.Index != 0 || len(r.Entries) > 0) || r.Emptied && r.Snap.Index == 0 {
		w.fail("P8.13: the peer %d: %+v", id, r)
	}
	w.wantKept(id)
	w.apply(id, r)
	for _, x := range r.Reads {
		w.counts["reads"]++
		if ahead, asked := w.reads[x.Context]; !asked || x.Index < ahead {
			w.fail("P8.9: the peer %d tells the read %+v; %d was known committed ahead of it", id, x, ahead)
		}
		delete(w.reads, x.Context)
	}
	return r.Messages
}

// wantSnap: a snapshot is what was committed up to it.
func (w *world) wantSnap(id uint64, s api.Snap) {
	f, there := w.truth[s.Index]
	if !there || f.conf != textConf(s.Conf) || string(s.Data) != string(stateAt(s.Index)) {
		w.fail("P8.11: the peer %d has the snapshot %+v; the entry there is %+v", id, s, f)
	}
}

// wantKept: what was told to be kept is what the peer has.
func (w *world) wantKept(id uint64) {
	p := w.peers[id]
	s := p.Status()
	l := p.Entries(0, s.Last+1)
	if s.First != p.saved.Snap.Index+1 || !slices.EqualFunc(l, p.saved.Entries, same) {
		w.fail("P8.13: the peer %d has %v behind %d, and was told to keep %v behind %d", id, l, s.First-1, p.saved.Entries, p.saved.Snap.Index)
	}
}

func (w *world) apply(id uint64, r api.Ready) {
	p := w.peers[id]
	for _, x := range r.Committed {
		if x.Index != p.applied+1 || x.Index > r.Hard.Commit {
			w.fail("P8.13: the peer %d tells the entry %d behind %d; known committed: %d", id, x.Index, p.applied, r.Hard.Commit)
		}
		p.applied++
		if x.Kind == api.EntryConf {
			p.conf = textConf(x.Conf)
		}
		f, there := w.truth[x.Index]
		if !there {
			f = fact{text(x), r.Hard.Term, p.conf}
		}
		if f.entry != text(x) || f.conf != p.conf {
			w.fail("P8.14: the peer %d tells %q as committed; told was %q", id, text(x), f.entry)
		}
		f.term = min(f.term, r.Hard.Term)
		w.truth[x.Index] = f
	}
	if p.applied != r.Hard.Commit {
		w.fail("P8.13: the peer %d has told up to %d; known committed: %d", id, p.applied, r.Hard.Commit)
	}
}

// wantMatching: two logs that have an entry of one index and term are the same up to there.
func (w *world) wantMatching() {
	for i, a := range w.ids {
		for _, b := range w.ids[:i] {
			p, q := w.peers[a].Status(), w.peers[b].Status()
			from, to := max(p.First, q.First), min(p.Last, q.Last)+1
			if from >= to {
				continue
			}
			l, m := w.peers[a].Entries(from, to), w.peers[b].Entries(from, to)
			same := true
			for k := len(l) - 1; k >= 0; k-- {
				if l[k].Term == m[k].Term && text(l[k]) != text(m[k]) || !same && l[k].Term != m[k].Term {
					w.fail("P8.14: the logs of %d and %d: %q and %q", a, b, text(l[k]), text(m[k]))
				}
				same = same && l[k].Term != m[k].Term
			}
		}
	}
}

// send: some are lost, some are doubled.
func (w *world) send(l []api.Message) {
	for _, m := range l {
		if m.Kind == api.MsgAppend && (len(m.Entries) > api.MaxEntries || m.Index+uint64(len(m.Entries)) < m.Index) {
			w.fail("P8.6: %d entries in a message", len(m.Entries))
		}
		if w.peers[m.To] == nil || m.To == w.cut || m.From == w.cut || w.r.IntN(12) == 0 {
			continue
		}
		w.net = append(w.net, m)
		if w.r.IntN(20) == 0 {
			w.net = append(w.net, m)
		}
	}
	for len(w.net) > 200 {
		w.net = slices.Delete(w.net, 0, 1+w.r.IntN(20))
	}
}

// any does one thing of any kind.
func (w *world) any() {
	w.step++
	id := w.ids[w.r.IntN(len(w.ids))]
	p := w.peers[id]
	switch k := w.r.IntN(1000); {
	case k < 550 && len(w.net) > 0:
		i := w.r.IntN(len(w.net))
		if w.r.IntN(3) > 0 {
			i = w.r.IntN(min(8, len(w.net)))
		}
		m := w.net[i]
		w.net = slices.Delete(w.net, i, i+1)
		id = m.To
		if e := w.peers[id].Step(m); e != api.OK {
			w.fail("Step(%+v): error %d", m, e)
		}
	case k < 800:
		p.Tick()
	case k < 806:
		w.counts["crashes"]++
		w.open(id)
	case k < 900:
		w.ask(id)
	case k < 920:
		w.compact(id)
	case k < 922:
		w.net = nil
	case k < 930:
		w.cut = id
	case k < 934:
		w.cut = 0
	}
	w.look(id)
	if w.r.IntN(3) > 0 {
		l := w.ready(id)
		if w.r.IntN(300) == 0 {
			w.open(id) // what was kept is kept, nothing was sent
			return
		}
		w.send(l)
	}
}

// ask: a client, or whoever moves members, asks the peer for something.
func (w *world) ask(id uint64) {
	p := w.peers[id]
	leads := p.Status().Role == api.RoleLeader
	e := api.ErrLeader
	switch w.r.IntN(8) {
	case 0:
		ahead := w.furthest
		if e = p.Read(uint64(w.step)); e == api.OK {
			w.reads[uint64(w.step)] = ahead
		}
	case 1:
		if _, e = p.Change(w.changes()); e == api.OK {
			w.counts["changes"]++
		}
	case 2:
		if w.r.IntN(4) > 0 {
			return
		}
		if e = p.Hand(w.ids[w.r.IntN(len(w.ids))]); e == api.OK {
			w.counts["hands"]++
		}
	case 3:
		for range w.r.IntN(40) * w.r.IntN(4) {
			p.Propose(nil)
		}
		_, e = p.Propose([]byte("many"))
	default:
		_, e = p.Propose([]byte(fmt.Sprint("step ", w.step)))
	}
	if (e == api.ErrLeader) == leads {
		w.fail("the peer %d, which leads: %t: error %d", id, leads, e)
	}
}

func (w *world) changes() []api.Change {
	var l []api.Change
	for range 1 + w.r.IntN(2) {
		l = append(l, api.Change{Kind: 1 + w.r.IntN(3), Peer: w.ids[w.r.IntN(len(w.ids))]})
	}
	return l
}

func (w *world) compact(id uint64) {
	p := w.peers[id]
	s := p.Status()
	if p.applied < s.First {
		return
	}
	index := s.First + uint64(w.r.IntN(int(p.applied-s.First)+1))
	if e := p.Compact(index, stateAt(index)); e != api.OK {
		w.fail("Compact(%d) on %d: error %d", index, id, e)
	}
	w.counts["compacted"]++
}

// deliver: all messages, till none is left.
func (w *world) deliver() {
	for delivered := 0; ; {
		for _, id := range w.ids {
			w.look(id)
			w.net = append(w.net, w.ready(id)...)
		}
		if len(w.net) == 0 {
			return
		}
		l := w.net
		w.net = nil
		w.r.Shuffle(len(l), func(i, j int) { l[i], l[j] = l[j], l[i] })
		for _, m := range l {
			if w.peers[m.To] == nil {
				continue
			}
			if e := w.peers[m.To].Step(m); e != api.OK {
				w.fail("Step(%+v): error %d", m, e)
			}
			w.look(m.To)
			if delivered++; delivered > 100000 {
				w.fail("P8.16: the messages never end")
			}
		}
	}
}

// calm is rounds of ticks, with all messages delivered between.
func (w *world) calm(rounds int) {
	for range rounds {
		w.step++
		for _, id := range w.ids {
			w.peers[id].Tick()
		}
		w.deliver()
	}
}

// leader: who leads alone, known to all members; nil, if that is not so.
func (w *world) leader() *seen {
	var leader *seen
	for _, id := range w.ids {
		if p := w.peers[id]; p.Status().Role == api.RoleLeader {
			if leader != nil {
				return nil
			}
			leader = p
		}
	}
	if leader == nil {
		return nil
	}
	s := leader.Status()
	for _, id := range conf.Members(s.Conf) {
		if w.peers[id].Status().Leader != s.ID {
			return nil
		}
	}
	return leader
}
