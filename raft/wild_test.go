package raft

import (
	"fmt"
	"math"
	"math/rand/v2"
	"testing"

	"regatta/api"
)

// wild makes messages that no peer would send, most of them nearly right.
type wild struct{ *rand.Rand }

func (w wild) number() uint64 {
	switch w.IntN(12) {
	case 0:
		return math.MaxUint64 - uint64(w.IntN(3))
	case 1:
		return 1<<63 - 1 + uint64(w.IntN(3))
	}
	return uint64(w.IntN(8))
}

func (w wild) conf() api.Conf {
	confs := []string{"1 2 3", "1", "2 3", "1 2|1 2 3", "2 3 4|1||5", "1 2||3 4", "", "2 1", "0 1", "1||1", "1 2 3 4 5 6 7 8 9 10"}
	return of(confs[w.IntN(len(confs))])
}

func (w wild) entries(index, term uint64) []api.Entry {
	var l []api.Entry
	for range w.IntN(5) {
		if index++; w.IntN(40) == 0 {
			index = w.number()
		}
		if term += uint64(w.IntN(2)); w.IntN(40) == 0 {
			term = w.number()
		}
		l = append(l, api.Entry{Kind: 1 + w.IntN(3), Term: term, Index: index, Data: []byte("d"), Conf: w.conf()})
	}
	return l
}

func (w wild) message() api.Message {
	m := api.Message{Kind: w.IntN(12), From: uint64(w.IntN(5)), To: 1, Term: w.number(), Index: w.number(), LogTerm: w.number(), Commit: w.number(), Refused: w.IntN(2) == 0, Context: w.number()}
	m.Entries = w.entries(m.Index, m.LogTerm)
	m.Snap = api.Snap{Index: w.number(), Term: w.number(), Conf: w.conf(), Data: []byte("s")}
	return m
}

// any does one thing of any kind to the peer.
func (w wild) any(n *Node) string {
	switch w.IntN(12) {
	case 0:
		index, e := n.Propose([]byte("p"))
		return fmt.Sprint("Propose ", index, e)
	case 1:
		index, e := n.Change([]api.Change{{Kind: w.IntN(5), Peer: w.number()}})
		return fmt.Sprint("Change ", index, e)
	case 2:
		return fmt.Sprint("Read ", n.Read(w.number()))
	case 3:
		return fmt.Sprint("Hand ", n.Hand(w.number()))
	case 4:
		return fmt.Sprint("Compact ", n.Compact(w.number(), []byte("c")))
	case 5:
		return "Entries " + textEntries(n.Entries(w.number(), w.number()))
	case 6, 7:
		for range w.IntN(25) {
			n.Tick()
		}
		return "Tick"
	}
	m, s := w.message(), n.Status()
	if w.IntN(60) > 0 {
		m.Term = s.Term
	}
	if w.IntN(5) > 0 { // who stands is mostly answered as it wants
		switch s.Role {
		case api.RoleAsker:
			m.Kind, m.Refused, m.Term = api.MsgAskReply, false, s.Term+1
		case api.RoleCandidate:
			m.Kind, m.Refused = api.MsgVoteReply, false
		case api.RoleLeader:
			m.Kind = []int{api.MsgAppendReply, api.MsgBeatReply, api.MsgAppend, api.MsgSnap, api.MsgNow}[w.IntN(5)]
		}
	}
	return fmt.Sprint("Step ", n.Step(m))
}

func TestWildCalls(t *testing.T) { // R1, R4, P8.15: whatever comes, nothing falls, what is kept fits together, and it is the same again
	leaders := 0
	for seed := range uint64(1500) {
		var twins [2]*Node
		var saved [2]api.Saved
		r := [2]wild{{rand.New(rand.NewPCG(seed, 1))}, {rand.New(rand.NewPCG(seed, 1))}}
		for i := range twins {
			twins[i] = open(t, 1, has("1 2 3", hard(2, 0, 2), "1 2=x 2(1,2,3||4) 2"))
			saved[i] = has("1 2 3", hard(2, 0, 2), "1 2=x 2(1,2,3||4) 2")
		}
		was := twins[0].Status()
		for range 60 {
			a, b := r[0].any(twins[0]), r[1].any(twins[1])
			ra, rb := twins[0].Ready(), twins[1].Ready()
			if a != b || fmt.Sprintf("%+v", ra) != fmt.Sprintf("%+v", rb) {
				t.Fatalf("seed %d: twins differ: %s %+v; %s %+v", seed, a, ra, b, rb)
			}
			s := twins[0].Status()
			if s.Term < was.Term || s.Commit < was.Commit || s.Commit > s.Last || s.Role == api.RoleLeader && was.Role == api.RoleLeader && s.Term == was.Term && s.Last < was.Last {
				t.Fatalf("seed %d: %s: %+v was %+v", seed, a, s, was)
			}
			if was = s; s.Role == api.RoleLeader {
				leaders++
			}
			keep(&saved[0], ra)
			if _, e := New(1, saved[0], 10, 2); e != api.OK {
				t.Fatalf("seed %d: %s: what is kept does not fit together: %+v", seed, a, saved[0])
			}
		}
	}
	if leaders < 1000 {
		t.Errorf("a leader at %d steps only: what is done is chosen badly", leaders)
	}
}

func TestNumbersAtTheirEnd(t *testing.T) { // R5: no sum leaves 64 bits
	last := uint64(math.MaxUint64)
	n := open(t, 1, api.Saved{Hard: hard(last, 0, last), Snap: api.Snap{Index: last, Term: last, Conf: of("1")}})
	ticks(n, 100)
	if s := n.Status(); s.Term != last || s.Commit != last || s.Last != last || s.Role == api.RoleLeader {
		t.Errorf("the last index and term: %+v", s)
	}
	if l := n.Entries(0, last); len(l) > 0 {
		t.Errorf("entries: %v", l)
	}
	n = open(t, 1, begin())
	step(t, n, api.Message{Kind: api.MsgVote, From: 2, To: 1, Term: last, Index: last, LogTerm: last})
	wantText(t, "the last term", short(n), "follower t18446744073709551615 v2 l0 c1 2-1")
	if r := ticks(n, 100); len(r.Messages) > 0 {
		t.Errorf("there is no next term: %s", lines(r.Messages))
	}
	step(t, n, api.Message{Kind: api.MsgNow, From: 2, To: 1, Term: last})
	r := step(t, n, api.Message{Kind: api.MsgAppend, From: 2, To: 1, Term: last, Index: last, LogTerm: 3, Commit: last, Entries: []api.Entry{{Kind: api.EntryNone, Term: last}}})
	wantText(t, "an entry behind the last index", short(n)+lines(r.Messages), "follower t18446744073709551615 v2 l2 c1 2-1")
	step(t, n, api.Message{Kind: api.MsgSnap, From: 2, To: 1, Term: last, Snap: api.Snap{Index: last, Term: last, Conf: of("1")}})
	if s := n.Status(); s.Commit != last || s.Last != last || s.First != last {
		t.Errorf("a snapshot of the last index: %+v", s)
	}
}

func TestMany(t *testing.T) { // R1
	n := leading(t, has("1 2", hard(1, 0, 1), ""))
	const many = 200000
	for range many {
		n.Propose(nil)
	}
	n.Ready()
	for at := uint64(2); at < many; at += api.MaxEntries {
		step(t, n, got(n, 2, at))
	}
	step(t, n, got(n, 2, many+2))
	wantText(t, "very many entries", short(n), fmt.Sprintf("leader t2 v1 l1 c%d 2-%d", many+2, many+2))
	if e := n.Compact(many, nil); e != api.OK || len(n.Entries(0, 1<<40)) != 2 {
		t.Errorf("Compact of very many: error %d", e)
	}
}

// spoil writes over all that lists of entries hold.
func spoil(l []api.Entry) {
	for i := range l {
		spoilBytes(l[i].Data)
		spoilConf(l[i].Conf)
		l[i] = api.Entry{Kind: 77}
	}
}

func spoilBytes(b []byte) {
	b = b[:cap(b)]
	for i := range b {
		b[i] = 'Z'
	}
}

func spoilConf(c api.Conf) {
	for _, l := range [][]uint64{c.Voters, c.Old, c.Learners} {
		l = l[:cap(l)]
		for i := range l {
			l[i] = 55
		}
	}
}

func spoilReady(r api.Ready) {
	spoil(r.Entries)
	spoil(r.Committed)
	spoilBytes(r.Snap.Data)
	spoilConf(r.Snap.Conf)
	for _, m := range r.Messages {
		spoil(m.Entries)
		spoilBytes(m.Snap.Data)
		spoilConf(m.Snap.Conf)
	}
}

func TestMemoryIsNotShared(t *testing.T) { // R3
	s := has("1 2 3", hard(1, 0, 2), "1=a 1(1,2,3||4)")
	n := open(t, 1, s)
	spoil(s.Entries)
	spoilConf(s.Snap.Conf)
	lead(t, n)
	data, l := []byte("x"), changes("+4 -3")
	n.Step(got(n, 2, 4))
	n.Propose(data)
	n.Change(l)
	data[0], l[0] = 'Z', api.Change{}
	r := n.Ready()
	wantText(t, "one list spoilt", func() string { spoil(r.Entries); return lines(r.Messages[:1]) }(), "append 1>2 t2 at 4:2 c4 5:2=x 6:2(1 2 4 | 1 2 3)")
	wantText(t, "two lists spoilt", func() string { spoil(r.Messages[0].Entries); return textEntries(r.Messages[1].Entries) }(), "4:2 5:2=x 6:2(1 2 4 | 1 2 3)")
	spoilReady(r)
	spoil(n.Entries(0, 99))
	spoilConf(n.Status().Conf)
	wantText(t, "the log", logText(n), "2:1=a 3:1(1 2 3 |  | 4) 4:2 5:2=x 6:2(1 2 4 | 1 2 3)")
	wantText(t, "the configuration", textConf(n.Status().Conf), "1 2 4 | 1 2 3")
	wantText(t, "what was sent is sent again as it was", lines(ofKind(ticks(n, 2).Messages, api.MsgAppend)[:1]), "append 1>2 t2 at 4:2 c4 5:2=x 6:2(1 2 4 | 1 2 3)")

	data = []byte("state")
	n.Compact(4, data)
	spoilBytes(data)
	r = n.Ready()
	wantText(t, "the snapshot", textSnap(r.Snap), "<4:2 (1 2 3 |  | 4) state>")
	spoilConf(r.Snap.Conf)
	spoilBytes(r.Snap.Data)
	wantText(t, "the snapshot in a message", lines(ofKind(r.Messages, api.MsgSnap)[:1]), "snap 1>3 t2 <4:2 (1 2 3 |  | 4) state>")
	spoilReady(r)
	wantText(t, "the snapshot in another message", lines(ofKind(ticks(n, 2).Messages, api.MsgSnap)[:1]), "snap 1>3 t2 <4:2 (1 2 3 |  | 4) state>")

	f := open(t, 3, begin())
	m := appendTo(2, 1, 1, 2, "2=a 2(1,2,3||4)")
	f.Step(m)
	spoil(m.Entries)
	wantText(t, "what came in a message", logText(f), "2:2=a 3:2(1 2 3 |  | 4)")
	m = api.Message{Kind: api.MsgSnap, From: 1, To: 3, Term: 2, Snap: api.Snap{Index: 9, Term: 2, Conf: of("1 2 3"), Data: []byte("state")}}
	f.Step(m)
	spoilConf(m.Snap.Conf)
	spoilBytes(m.Snap.Data)
	wantText(t, "a snapshot that came in a message", textSnap(f.Ready().Snap), "<9:2 (1 2 3) state>")
}

func TestWhatCountsOfAnEntry(t *testing.T) { // R2: of EntryConf the configuration, of EntryData the data
	full := []api.Entry{{Kind: api.EntryData, Term: 1, Index: 2, Data: []byte("a"), Conf: of("1")}, {Kind: api.EntryConf, Term: 1, Index: 3, Data: []byte("b"), Conf: of("1 3")}, {Kind: api.EntryNone, Term: 1, Index: 4, Data: []byte("c"), Conf: of("1")}}
	n := open(t, 3, api.Saved{Hard: hard(1, 0, 1), Snap: begin().Snap, Entries: full})
	wantText(t, "by New", logText(n), "2:1=a 3:1(1 3) 4:1")
	n = open(t, 3, begin())
	step(t, n, api.Message{Kind: api.MsgAppend, From: 1, To: 3, Term: 1, Index: 1, LogTerm: 1, Entries: full})
	wantText(t, "by a message", logText(n), "2:1=a 3:1(1 3) 4:1")
}
