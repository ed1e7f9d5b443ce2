package raft

import (
	"math"
	"testing"

	"regatta/api"
)

func TestNew(t *testing.T) { // P8.2
	rows := []struct {
		name           string
		id             uint64
		s              api.Saved
		election, beat int
		e              api.Errno
	}{
		{"as told", 1, begin(), 10, 2, api.OK},
		{"nothing", 1, api.Saved{}, 10, 2, api.OK},
		{"the least clocks", 1, begin(), 2, 1, api.OK},
		{"the greatest clocks", math.MaxUint64, begin(), 1000, 999, api.OK},
		{"no number", 0, begin(), 10, 2, api.ErrArg},
		{"an election of 1", 1, begin(), 1, 1, api.ErrArg},
		{"an election of 1001", 1, begin(), 1001, 2, api.ErrArg},
		{"an election below 0", 1, begin(), -10, 2, api.ErrArg},
		{"a beat of 0", 1, begin(), 10, 0, api.ErrArg},
		{"a beat below 0", 1, begin(), 10, -1, api.ErrArg},
		{"a beat of an election", 1, begin(), 10, 10, api.ErrArg},
		{"clocks beyond all", 1, begin(), math.MaxInt, math.MaxInt - 1, api.ErrArg},

		{"a log", 1, has("1 2 3", hard(4, 3, 3), "1 2=x 2 4(1,2|1)"), 10, 2, api.OK},
		{"a log, and all of it committed", 1, has("1 2 3", hard(4, 3, 5), "1 2=x 2 4(1,2|1)"), 10, 2, api.OK},
		{"a commit behind the log", 1, has("1 2 3", hard(4, 3, 6), "1 2=x 2 4(1,2|1)"), 10, 2, api.ErrArg},
		{"a commit ahead of the snapshot", 1, has("1 2 3", hard(4, 3, 0), "1 2=x 2 4"), 10, 2, api.ErrArg},
		{"a commit behind nothing", 1, api.Saved{Hard: hard(1, 0, 1)}, 10, 2, api.ErrArg},
		{"terms that fall", 1, has("1 2 3", hard(4, 0, 1), "2 1"), 10, 2, api.ErrArg},
		{"a term below the snapshot's", 1, has("1 2 3", hard(4, 0, 1), "0"), 10, 2, api.ErrArg},
		{"a term above", 1, has("1 2 3", hard(4, 0, 1), "1 5"), 10, 2, api.ErrArg},
		{"an index left out", 1, api.Saved{Hard: hard(4, 0, 0), Entries: entries(1, "1 2")}, 10, 2, api.ErrArg},
		{"an index twice", 1, api.Saved{Hard: hard(4, 0, 0), Entries: append(entries(0, "1 1"), entries(1, "1")...)}, 10, 2, api.ErrArg},
		{"an index of the snapshot's", 1, api.Saved{Hard: hard(4, 0, 1), Snap: begin().Snap, Entries: entries(0, "1")}, 10, 2, api.ErrArg},
		{"no configuration", 1, has("1 2 3", hard(4, 0, 1), "1 2()"), 10, 2, api.ErrArg},
		{"a configuration that falls", 1, has("1 2 3", hard(4, 0, 1), "1 2(2,1) 3"), 10, 2, api.ErrArg},
		{"a snapshot without members", 1, has("", hard(4, 0, 1), ""), 10, 2, api.ErrArg},
		{"a snapshot with a learner who votes", 1, has("1 2||2", hard(4, 0, 1), ""), 10, 2, api.ErrArg},
		{"members without a snapshot", 1, api.Saved{Snap: api.Snap{Conf: of("1")}}, 10, 2, api.ErrArg},
		{"an old member without a snapshot", 1, api.Saved{Snap: api.Snap{Conf: of("|1")}}, 10, 2, api.ErrArg},
		{"a learner without a snapshot", 1, api.Saved{Snap: api.Snap{Conf: of("||1")}}, 10, 2, api.ErrArg},
		{"indexes beyond 64 bits", 1, api.Saved{Hard: hard(1, 0, math.MaxUint64), Snap: api.Snap{Index: math.MaxUint64, Term: 1, Conf: of("1")}, Entries: []api.Entry{{Kind: api.EntryNone, Term: 1}}}, 10, 2, api.ErrArg},
	}
	for _, r := range rows {
		n, e := New(r.id, r.s, r.election, r.beat)
		want(t, r.name, e, r.e)
		if (n == nil) == (e == api.OK) {
			t.Errorf("%s: a peer beside the error %d: %t", r.name, e, n != nil)
		}
	}
}

func TestNewHasWhatWasSaved(t *testing.T) { // P8.1, P8.2
	n := open(t, 2, has("1 2 3", hard(4, 3, 4), "1 2=x 2(1,2,3,4|1,2,3|5) 4=y"))
	wantText(t, "how it stands", short(n), "follower t4 v3 l0 c4 2-5")
	wantText(t, "its log", logText(n), "2:1 3:2=x 4:2(1 2 3 4 | 1 2 3 | 5) 5:4=y")
	r := n.Ready()
	wantText(t, "what is committed, anew", textEntries(r.Committed), "2:1 3:2=x 4:2(1 2 3 4 | 1 2 3 | 5)")
	wantText(t, "Hard", textHard(r.Hard), "4 3 4")
	if r.New || r.Emptied || r.Snap.Index != 0 || len(r.Entries)+len(r.Messages)+len(r.Reads) > 0 {
		t.Errorf("P8.13: there is nothing to keep: %+v", r)
	}
	if r := n.Ready(); len(r.Committed) > 0 {
		t.Errorf("P8.13: told again: %+v", r)
	}
}

func TestConfiguration(t *testing.T) { // P8.1: the last one of the log, or the snapshot's
	n := open(t, 3, begin())
	at := func(what, c string, index uint64) {
		t.Helper()
		s := n.Status()
		wantText(t, what, textConf(s.Conf), c)
		if s.ConfIndex != index {
			t.Errorf("%s: it stands at %d; want %d", what, s.ConfIndex, index)
		}
	}
	at("in the snapshot", "1 2 3", 1)
	step(t, n, api.Message{Kind: api.MsgAppend, From: 1, To: 3, Term: 2, Index: 1, LogTerm: 1, Commit: 1, Entries: entries(1, "2 2(1,2,3||4) 2 2(1,2,3,4|1,2,3) 2")})
	at("not committed, and the last one", "1 2 3 4 | 1 2 3", 5)
	step(t, n, api.Message{Kind: api.MsgAppend, From: 2, To: 3, Term: 3, Index: 4, LogTerm: 2, Commit: 2, Entries: entries(4, "3")})
	at("taken out", "1 2 3 |  | 4", 3)
	step(t, n, api.Message{Kind: api.MsgAppend, From: 1, To: 3, Term: 4, Index: 2, LogTerm: 2, Commit: 2, Entries: entries(2, "4")})
	at("taken out as well", "1 2 3", 1)
	step(t, n, api.Message{Kind: api.MsgAppend, From: 1, To: 3, Term: 4, Index: 3, LogTerm: 4, Commit: 5, Entries: entries(3, "4(1,2,3||7) 4 4(1,2,3)")})
	at("behind that", "1 2 3", 6)
	want(t, "Compact", n.Compact(5, nil), api.OK)
	at("with one of those ahead in the snapshot", "1 2 3", 6)
	step(t, n, api.Message{Kind: api.MsgAppend, From: 2, To: 3, Term: 5, Index: 5, LogTerm: 4, Commit: 5, Entries: entries(5, "5")})
	at("the snapshot's again", "1 2 3 |  | 7", 5)
}

func TestBlank(t *testing.T) { // P8.1: it answers, and never stands
	n := open(t, 4, api.Saved{})
	if r := ticks(n, 500); len(r.Messages) > 0 || n.Status().Role != api.RoleFollower {
		t.Errorf("a blank peer stands: %s: %s", short(n), lines(r.Messages))
	}
	r := step(t, n, api.Message{Kind: api.MsgAsk, From: 2, To: 4, Term: 3}, api.Message{Kind: api.MsgVote, From: 2, To: 4, Term: 3})
	wantText(t, "it grants", lines(r.Messages), "ask-reply 4>2 t3; vote-reply 4>2 t3")
	r = step(t, n, api.Message{Kind: api.MsgAppend, From: 2, To: 4, Term: 3, Index: 9, LogTerm: 2}, api.Message{Kind: api.MsgBeat, From: 2, To: 4, Term: 3, Context: 8})
	wantText(t, "it answers", lines(r.Messages), "append-reply 4>2 t3 no at 9:0; beat-reply 4>2 t3 x8")
	step(t, n, api.Message{Kind: api.MsgNow, From: 2, To: 4, Term: 3})
	wantText(t, "it does not stand", short(n), "follower t3 v2 l2 c0 1-0")
	r = step(t, n, api.Message{Kind: api.MsgAppend, From: 2, To: 4, Term: 3, Commit: 1, Entries: entries(0, "1(2,4) 3")})
	wantText(t, "it takes a log from the beginning on", lines(r.Messages), "append-reply 4>2 t3 at 2:0")
	wantText(t, "it is blank no more", line(ticks(n, 17).Messages[0]), "ask 4>2 t4 at 2:3")
}

func TestMessagesOfNobody(t *testing.T) { // P8.3
	for name, n := range map[string]*Node{"a follower": open(t, 1, begin()), "a leader": leading(t, begin())} {
		before := short(n)
		for _, m := range []api.Message{
			{Kind: api.MsgBeat, From: 2, To: 3, Term: 9}, {Kind: api.MsgBeat, From: 2, To: 0, Term: 9}, {Kind: api.MsgBeat, From: 2, Term: 9},
			{Kind: api.MsgBeat, From: 1, To: 1, Term: 9}, {Kind: api.MsgVote, From: 1, To: 1, Term: 9},
			{Kind: 0, From: 2, To: 1, Term: 9}, {Kind: -1, From: 2, To: 1, Term: 9}, {Kind: 11, From: 2, To: 1, Term: 9}, {Kind: math.MaxInt, From: 2, To: 1, Term: 9}, {Kind: math.MinInt, From: 2, To: 1, Term: 9},
		} {
			want(t, name, n.Step(m), api.ErrArg)
		}
		wantText(t, name, short(n), before)
		if r := n.Ready(); r.New || len(r.Messages) > 0 {
			t.Errorf("%s has something to say: %+v", name, r)
		}
	}
}

func TestHigherTerms(t *testing.T) { // P8.3
	for kind := api.MsgAsk; kind <= api.MsgNow; kind++ {
		for _, refused := range []bool{false, true} {
			for _, name := range []string{"follower", "leader"} {
				n := open(t, 1, has("1 2 3", hard(2, 3, 1), "2(1,2,3||9)"))
				if name == "leader" {
					lead(t, n)
				}
				before, m := short(n), api.Message{Kind: kind, From: 9, To: 1, Term: 7, Refused: refused}
				step(t, n, m)
				s := n.Status()
				switch {
				case kind == api.MsgAsk || kind == api.MsgAskReply && !refused:
					wantText(t, name+": "+line(m), short(n), before)
				case kind == api.MsgNow: // it stands at once
					if s.Term != 8 || s.Vote != 1 || s.Role != api.RoleCandidate {
						t.Errorf("%s: %s: %s", name, line(m), short(n))
					}
				default:
					leader := uint64(0)
					if kind == api.MsgAppend || kind == api.MsgBeat || kind == api.MsgSnap {
						leader = 9
					}
					if s.Term != 7 || s.Vote != 0 || s.Role != api.RoleFollower || s.Leader != leader {
						t.Errorf("%s: %s: %s", name, line(m), short(n))
					}
				}
			}
		}
	}
}

func TestLowerTerms(t *testing.T) { // P8.3
	replies := map[int]string{
		api.MsgAsk: "ask-reply 1>2 t5 no", api.MsgVote: "vote-reply 1>2 t5 no", api.MsgAppend: "append-reply 1>2 t5 no", api.MsgBeat: "beat-reply 1>2 t5 no", api.MsgSnap: "append-reply 1>2 t5 no",
	}
	for kind := api.MsgAsk; kind <= api.MsgNow; kind++ {
		for _, refused := range []bool{false, true} {
			n := open(t, 1, has("1 2 3", hard(5, 0, 1), "3 3"))
			ticks(n, 12)
			m := api.Message{Kind: kind, From: 2, To: 1, Term: 4, Index: 1, LogTerm: 1, Commit: 3, Refused: refused, Entries: entries(1, "4 4 4 4"), Snap: api.Snap{Index: 9, Term: 4, Conf: of("2 3")}}
			r := step(t, n, m)
			wantText(t, line(m), lines(r.Messages), replies[kind])
			wantText(t, line(m), short(n), "follower t5 v0 l0 c1 2-3")
			wantText(t, line(m), lines(ofKind(ticks(n, 4).Messages, api.MsgAsk)), "ask 1>2 t6 at 3:3; ask 1>3 t6 at 3:3") // no leader was heard of
			if r.New {
				t.Errorf("%s: there is something to keep: %+v", line(m), r)
			}
		}
	}
}

func TestRepliesOfALowerTermCountNothing(t *testing.T) { // P8.3
	n := open(t, 1, begin())
	ticks(n, 12)
	step(t, n, api.Message{Kind: api.MsgAskReply, From: 2, To: 1, Term: 2})
	ticks(n, 13)
	step(t, n, api.Message{Kind: api.MsgAskReply, From: 2, To: 1, Term: 3})
	wantText(t, "a candidate for the second time", short(n), "candidate t3 v1 l0 c1 2-1")
	step(t, n, api.Message{Kind: api.MsgVoteReply, From: 2, To: 1, Term: 2})
	wantText(t, "a vote of the first time", short(n), "candidate t3 v1 l0 c1 2-1")
	step(t, n, api.Message{Kind: api.MsgVoteReply, From: 2, To: 1, Term: 3})
	step(t, n, api.Message{Kind: api.MsgAppendReply, From: 2, To: 1, Term: 2, Index: 2})
	wantText(t, "an entry of another leader", short(n), "leader t3 v1 l1 c1 2-2")
}

func TestStatusAndEntries(t *testing.T) { // P8.12
	n := open(t, 2, api.Saved{Hard: hard(7, 3, 12), Snap: api.Snap{Index: 10, Term: 5, Conf: of("2 3||4"), Data: []byte("d")}, Entries: entries(10, "5=a 6=b 7=c 7=d")})
	wantText(t, "how it stands", short(n), "follower t7 v3 l0 c12 11-14")
	if s := n.Status(); s.ID != 2 || s.ConfIndex != 10 || textConf(s.Conf) != "2 3 |  | 4" {
		t.Errorf("Status: %+v", s)
	}
	rows := []struct {
		from, to uint64
		s        string
	}{
		{11, 15, "11:5=a 12:6=b 13:7=c 14:7=d"}, {0, math.MaxUint64, "11:5=a 12:6=b 13:7=c 14:7=d"}, {12, 14, "12:6=b 13:7=c"}, {14, 15, "14:7=d"}, {14, 99, "14:7=d"}, {3, 12, "11:5=a"},
		{11, 11, ""}, {13, 12, ""}, {15, 20, ""}, {0, 0, ""}, {0, 11, ""}, {0, 10, ""}, {math.MaxUint64, math.MaxUint64, ""}, {math.MaxUint64, 0, ""},
	}
	for _, r := range rows {
		wantText(t, "Entries", textEntries(n.Entries(r.from, r.to)), r.s)
	}
	b := open(t, 2, api.Saved{})
	if s := b.Status(); s.First != 1 || s.Last != 0 || s.ConfIndex != 0 || len(b.Entries(0, 99)) > 0 {
		t.Errorf("a blank peer: %+v", s)
	}
}

func TestExamples(t *testing.T) {
	n := open(t, 1, begin())
	wantText(t, "behind eleven ticks", lines(ticks(n, 11).Messages), "")
	wantText(t, "behind twelve ticks", lines(ticks(n, 1).Messages), "ask 1>2 t2 at 1:1; ask 1>3 t2 at 1:1")
	r := step(t, n, api.Message{Kind: api.MsgAskReply, From: 2, To: 1, Term: 2})
	wantText(t, "a candidate", lines(r.Messages), "vote 1>2 t2 at 1:1; vote 1>3 t2 at 1:1")
	wantText(t, "a candidate's Hard", textHard(r.Hard), "2 1 1")
	r = step(t, n, api.Message{Kind: api.MsgVoteReply, From: 2, To: 1, Term: 2})
	wantText(t, "a leader", short(n), "leader t2 v1 l1 c1 2-2")
	wantText(t, "a leader's entry", textEntries(r.Entries), "2:2")
	wantText(t, "a leader", lines(r.Messages), "append 1>2 t2 at 1:1 c1 2:2; append 1>3 t2 at 1:1 c1 2:2")
	r = step(t, n, got(n, 3, 2))
	wantText(t, "what is committed", textHard(r.Hard)+", "+textEntries(r.Committed), "2 1 2, 2:2")
	index, e := n.Propose([]byte{7})
	if want(t, "Propose", e, api.OK); index != 3 {
		t.Errorf("Propose: %d; want 3", index)
	}
	want(t, "Hand(9)", n.Hand(9), api.ErrArg)
	want(t, "Read(5) on peer 2", open(t, 2, begin()).Read(5), api.ErrLeader)
}
