package raft

import (
	"fmt"
	"math"
	"testing"

	"regatta/api"
)

func TestAsGood(t *testing.T) { // P8.4
	rows := []struct {
		index, term uint64
		good        bool
	}{
		{4, 3, true}, {5, 3, true}, {3, 3, false}, {9, 2, false}, {2, 4, true}, {0, 4, true}, {0, 0, false}, {math.MaxUint64, 2, false}, {math.MaxUint64, math.MaxUint64, true},
	}
	for _, r := range rows {
		for _, kind := range []int{api.MsgAsk, api.MsgVote} {
			n := open(t, 3, has("1 2 3", hard(3, 2, 1), "2 3 3"))
			m := api.Message{Kind: kind, From: 1, To: 3, Term: 8, Index: r.index, LogTerm: r.term}
			reply := step(t, n, m).Messages
			if len(reply) != 1 || reply[0].Kind != kind+1 || reply[0].Refused == r.good {
				t.Errorf("%s: %s; want a grant: %t", line(m), lines(reply), r.good)
			}
			vote := uint64(0)
			if r.good {
				vote = 1
			}
			if s := n.Status(); kind == api.MsgVote && (s.Vote != vote || s.Term != 8) {
				t.Errorf("%s: %s", line(m), short(n))
			}
		}
	}
}

func TestOneVoteATerm(t *testing.T) { // P8.4
	n := open(t, 3, begin())
	vote := func(from, term uint64) string {
		return lines(step(t, n, api.Message{Kind: api.MsgVote, From: from, To: 3, Term: term, Index: 1, LogTerm: 1}).Messages)
	}
	wantText(t, "the first one", vote(1, 2), "vote-reply 3>1 t2")
	wantText(t, "another one", vote(2, 2), "vote-reply 3>2 t2 no")
	wantText(t, "the same again", vote(1, 2), "vote-reply 3>1 t2")
	wantText(t, "how it stands", short(n), "follower t2 v1 l0 c1 2-1")
	n = open(t, 3, has("1 2 3", hard(2, 1, 1), ""))
	wantText(t, "another one, behind a crash", vote(2, 2), "vote-reply 3>2 t2 no")
	wantText(t, "the same again, behind a crash", vote(1, 2), "vote-reply 3>1 t2")
	wantText(t, "another one in a later term", vote(2, 3), "vote-reply 3>2 t3")
	l := leading(t, begin())
	wantText(t, "a leader", lines(step(t, l, api.Message{Kind: api.MsgVote, From: 2, To: 1, Term: 2, Index: 9, LogTerm: 2}).Messages), "vote-reply 1>2 t2 no")
}

func TestGrantOfAsk(t *testing.T) { // P8.4
	ask := func(n *Node, term uint64) string {
		id := n.Status().ID
		before := short(n)
		r := step(t, n, api.Message{Kind: api.MsgAsk, From: 9, To: id, Term: term, Index: 9, LogTerm: 9})
		wantText(t, "behind being asked", short(n), before)
		if r.New {
			t.Errorf("there is something to keep behind being asked")
		}
		return lines(ofKind(r.Messages, api.MsgAskReply))
	}
	n := open(t, 3, begin())
	wantText(t, "the next term", ask(n, 2), "ask-reply 3>9 t2")
	wantText(t, "a later term", ask(n, 7), "ask-reply 3>9 t7")
	wantText(t, "its own term", ask(n, 1), "ask-reply 3>9 t1 no")
	step(t, n, api.Message{Kind: api.MsgBeat, From: 1, To: 3, Term: 1})
	wantText(t, "with a leader", ask(n, 7), "ask-reply 3>9 t1 no")
	ticks(n, 9)
	wantText(t, "with a leader that was heard of 9 ticks ago", ask(n, 7), "ask-reply 3>9 t1 no")
	ticks(n, 1)
	wantText(t, "with a leader that was heard of 10 ticks ago", ask(n, 7), "ask-reply 3>9 t7")
	step(t, n, api.Message{Kind: api.MsgVote, From: 2, To: 3, Term: 1, Index: 1, LogTerm: 1})
	wantText(t, "a vote is no hearing of a leader", ask(n, 7), "ask-reply 3>9 t7")
	step(t, n, api.Message{Kind: api.MsgBeat, From: 1, To: 3, Term: 1})
	wantText(t, "with a leader anew", ask(n, 7), "ask-reply 3>9 t1 no")
	step(t, n, api.Message{Kind: api.MsgVote, From: 2, To: 3, Term: 4})
	wantText(t, "of a later term whose leader it does not know", ask(n, 7), "ask-reply 3>9 t7")

	l := leading(t, begin())
	ticks(l, 100)
	wantText(t, "a leader", ask(l, 7), "ask-reply 1>9 t2 no")
	learner := open(t, 5, has("1 2 3||5", hard(1, 0, 1), ""))
	wantText(t, "a learner", ask(learner, 7), "ask-reply 5>9 t7")
	wantText(t, "a learner's vote", lines(step(t, learner, api.Message{Kind: api.MsgVote, From: 2, To: 5, Term: 2, Index: 1, LogTerm: 1}).Messages), "vote-reply 5>2 t2")
}

func TestPatience(t *testing.T) { // P8.5
	rows := []struct {
		id, term uint64
		election int
		patience int
	}{
		{1, 1, 10, 12}, {2, 1, 10, 13}, {3, 1, 10, 14}, {1, 8, 10, 19}, {1, 9, 10, 10}, {7, 0, 10, 17}, {3, 2, 2, 3}, {3, 3, 2, 2}, {999, 1000, 1000, 1999},
		{math.MaxUint64, 1, 10, 16}, {math.MaxUint64, 1<<63 - 1, 10, 12}, // of the sum itself, which is above 64 bits
	}
	for _, r := range rows {
		n, e := New(r.id, api.Saved{Hard: api.Hard{Term: r.term, Commit: 1}, Snap: api.Snap{Index: 1, Conf: api.Conf{Voters: []uint64{r.id}, Old: []uint64{12345}}}}, r.election, 1)
		if e != api.OK {
			t.Fatalf("New(%d): error %d", r.id, e)
		}
		wantText(t, fmt.Sprint(r, " a tick less"), lines(ticks(n, r.patience-1).Messages), "")
		if l := ticks(n, 1).Messages; len(l) != 1 || l[0].Kind != api.MsgAsk || l[0].Term != r.term+1 || n.Status().Role != api.RoleAsker {
			t.Errorf("%v: it does not stand: %s", r, lines(l))
		}
		if l := ticks(n, r.patience-1).Messages; len(l) > 0 {
			t.Errorf("%v: it stands again too early: %s", r, lines(l))
		}
		if l := ticks(n, 1).Messages; len(l) != 1 {
			t.Errorf("%v: it does not stand again: %s", r, lines(l))
		}
	}
}

func TestWhatBeginsPatienceAnew(t *testing.T) { // P8.4, P8.5
	rows := []struct {
		m    api.Message
		anew bool
	}{
		{api.Message{Kind: api.MsgBeat, Term: 1}, true},
		{api.Message{Kind: api.MsgAppend, Term: 1, Index: 1, LogTerm: 1}, true},
		{api.Message{Kind: api.MsgAppend, Term: 1, Index: 7, LogTerm: 1}, true},
		{api.Message{Kind: api.MsgSnap, Term: 1, Snap: api.Snap{Index: 1, Term: 1, Conf: of("1 2 3")}}, true},
		{api.Message{Kind: api.MsgVote, Term: 1, Index: 1, LogTerm: 1}, true},
		{api.Message{Kind: api.MsgVote, Term: 1, Index: 0, LogTerm: 1}, false},
		{api.Message{Kind: api.MsgAsk, Term: 2, Index: 1, LogTerm: 1}, false},
		{api.Message{Kind: api.MsgAsk, Term: 2, Index: 0, LogTerm: 1}, false},
		{api.Message{Kind: api.MsgAskReply, Term: 2}, false},
		{api.Message{Kind: api.MsgAskReply, Term: 1, Refused: true}, false},
		{api.Message{Kind: api.MsgVoteReply, Term: 1}, false},
		{api.Message{Kind: api.MsgAppendReply, Term: 1}, false},
		{api.Message{Kind: api.MsgBeatReply, Term: 1}, false},
		{api.Message{Kind: api.MsgBeat, Term: 0}, false},
	}
	for _, r := range rows {
		n := open(t, 1, begin())
		r.m.From, r.m.To = 2, 1
		ticks(n, 11)
		step(t, n, r.m)
		stands := len(ticks(n, 1).Messages) > 0
		if stands == r.anew {
			t.Errorf("%s: it stands a tick later: %t", line(r.m), stands)
		}
		if !stands && (len(ticks(n, 10).Messages) > 0 || len(ticks(n, 1).Messages) != 2) {
			t.Errorf("%s: it does not stand 12 ticks later", line(r.m))
		}
	}
}

func TestPatienceOfWhoHasStood(t *testing.T) { // P8.4, P8.5: who votes for itself has voted, and a leader hears of itself
	n := open(t, 1, begin())
	ticks(n, 17)
	step(t, n, reply(api.MsgAskReply, 2, 2, false))
	wantText(t, "a candidate of the term 2, behind 12 ticks", lines(ticks(n, 12).Messages), "")
	wantText(t, "behind 13 ticks", lines(ticks(n, 1).Messages), "ask 1>2 t3 at 1:1; ask 1>3 t3 at 1:1")
	step(t, n, reply(api.MsgAskReply, 2, 3, false))
	ticks(n, 13)
	step(t, n, reply(api.MsgVoteReply, 2, 3, false))
	ticks(n, 100)
	step(t, n, api.Message{Kind: api.MsgBeatReply, From: 2, To: 1, Term: 4, Refused: true})
	wantText(t, "who leads no more", short(n)+lines(ticks(n, 14).Messages), "follower t4 v0 l0 c1 2-2")
	wantText(t, "a tick later", lines(ticks(n, 1).Messages), "ask 1>2 t5 at 2:3; ask 1>3 t5 at 2:3")
}

func TestWhoStands(t *testing.T) { // P8.5
	rows := []struct {
		name string
		s    api.Saved
		who  string // whom it asks
	}{
		{"a voter", has("1 2 3", hard(1, 0, 1), ""), "2 3"},
		{"a voter of before", has("2 3|1 2", hard(1, 0, 1), ""), "2 3"},
		{"a voter to come", has("1 2|2 3||5", hard(1, 0, 1), ""), "2 3"},
		{"with learners", has("1 2||3 4", hard(1, 0, 1), ""), "2"},
		{"a learner", has("2 3||1", hard(1, 0, 1), ""), ""},
		{"nobody's", has("2 3", hard(1, 0, 1), ""), ""},
		{"a voter of one that is not committed", has("2 3", hard(1, 0, 1), "1(1,2,3|2,3)"), "2 3"},
		{"one that goes", has("1 2 3", hard(1, 0, 1), "1(2,3)"), "2 3"},
		{"one that has gone", has("1 2 3", hard(1, 0, 2), "1(2,3)"), ""},
		{"one that goes, by the last of those that are committed", has("2 3", hard(1, 0, 2), "1(1,2,3|2,3) 1 1(4,5)"), "4 5"},
		{"one that goes, and came with what is not committed either", has("2 3", hard(1, 0, 1), "1(1,2,3|2,3) 1 1(2,3)"), ""},
		{"one that had gone by what is committed", has("1 2 3", hard(1, 0, 2), "1(2,3) 1(2,3,4|2,3)"), ""},
	}
	for _, r := range rows {
		n := open(t, 1, r.s)
		var who []uint64
		for _, m := range ticks(n, 12).Messages {
			if m.Kind != api.MsgAsk || m.Term != 2 || m.Index != n.Status().Last || m.LogTerm != 1 {
				t.Errorf("%s: %s", r.name, line(m))
			}
			who = append(who, m.To)
		}
		wantText(t, r.name, fmt.Sprint(who), fmt.Sprint(list(r.who)))
		step(t, n, api.Message{Kind: api.MsgNow, From: 2, To: 1, Term: 1})
		if role := n.Status().Role; (role == api.RoleCandidate) != (r.who != "") {
			t.Errorf("%s: behind MsgNow: %s", r.name, short(n))
		}
	}
}

// reply is the answer of a peer to MsgAsk or MsgVote.
func reply(kind int, from, term uint64, refused bool) api.Message {
	return api.Message{Kind: kind, From: from, To: 1, Term: term, Refused: refused}
}

func TestQuorumOfGrants(t *testing.T) { // P8.5
	rows := []struct {
		conf, grants, refused string
		role                  int
	}{
		{"1 2 3", "2", "", api.RoleCandidate}, {"1 2 3", "", "", api.RoleAsker}, {"1 2 3", "7 8 9", "", api.RoleAsker}, {"1 2 3", "", "2", api.RoleAsker},
		{"1 2 3", "", "2 3", api.RoleFollower}, {"1 2 3", "", "2 2 9", api.RoleAsker}, {"1 2 3||4 5", "4 5", "", api.RoleAsker}, {"1 2 3||4 5", "", "4 5", api.RoleAsker},
		{"1 2 3 4", "2", "", api.RoleAsker}, {"1 2 3 4", "2 2", "", api.RoleAsker}, {"1 2 3 4", "2 4", "", api.RoleCandidate}, {"1 2 3 4", "", "2 4", api.RoleFollower},
		{"1 2 3|1 4 5", "2", "", api.RoleAsker}, {"1 2 3|1 4 5", "2 5", "", api.RoleCandidate}, {"1 2 3|1 4 5", "2 3", "", api.RoleAsker}, {"1 2 3|1 4 5", "2", "4 5", api.RoleFollower},
		{"2 3|1 4", "2", "", api.RoleAsker}, {"2 3|1 4", "2 3", "", api.RoleAsker}, {"2 3|1 4", "2 3 4", "", api.RoleCandidate},
	}
	for _, r := range rows {
		for _, kind := range []int{api.MsgAskReply, api.MsgVoteReply} {
			n := open(t, 1, has(r.conf, hard(1, 0, 1), ""))
			ticks(n, 12)
			role, term := r.role, uint64(1)
			if kind == api.MsgVoteReply { // first all others grant, then the same answers are votes
				step(t, n, api.Message{Kind: api.MsgNow, From: 2, To: 1, Term: 1})
				term, role = 2, map[int]int{api.RoleAsker: api.RoleCandidate, api.RoleCandidate: api.RoleLeader, api.RoleFollower: api.RoleFollower}[role]
			}
			for _, p := range list(r.grants) {
				step(t, n, reply(kind, p, 2, false))
			}
			for _, p := range list(r.refused) {
				step(t, n, reply(kind, p, term, true))
			}
			if s := n.Status(); s.Role != role {
				t.Errorf("(%s), granted by %s, refused by %s, kind %d: %s; want role %d", r.conf, r.grants, r.refused, kind, short(n), role)
			}
		}
	}
}

func TestOneThatGoesCountsNothing(t *testing.T) { // P8.5: its own vote, where it does not vote any more
	n := open(t, 1, has("1 2 3", hard(1, 0, 1), "1(2,3)"))
	ticks(n, 12)
	step(t, n, reply(api.MsgAskReply, 2, 2, false))
	wantText(t, "with one grant of two", short(n), "asker t1 v0 l0 c1 2-2")
	step(t, n, reply(api.MsgAskReply, 3, 2, false))
	wantText(t, "with both", short(n), "candidate t2 v1 l0 c1 2-2")
	step(t, n, reply(api.MsgVoteReply, 2, 2, false))
	wantText(t, "with one vote of two", short(n), "candidate t2 v1 l0 c1 2-2")
	step(t, n, reply(api.MsgVoteReply, 3, 2, false))
	wantText(t, "with both votes", short(n), "leader t2 v1 l1 c1 2-3")
	step(t, n, got(n, 2, 3))
	wantText(t, "with the entry at one of two", short(n), "leader t2 v1 l1 c1 2-3")
	r := step(t, n, got(n, 3, 3))
	wantText(t, "it has gone", short(n), "follower t2 v1 l0 c3 2-3") // P8.8
	wantText(t, "and has told so", lines(ofKind(r.Messages, api.MsgAppend)), "append 1>2 t2 at 3:2 c3; append 1>3 t2 at 3:2 c3")
	wantText(t, "it stands no more", lines(ticks(n, 50).Messages), "")
}

func TestAnswersOfOtherTimes(t *testing.T) { // P8.3, P8.5
	n := open(t, 1, begin())
	step(t, n, reply(api.MsgAskReply, 2, 2, false), reply(api.MsgVoteReply, 2, 1, false))
	wantText(t, "a follower", short(n), "follower t1 v0 l0 c1 2-1")
	ticks(n, 12)
	step(t, n, reply(api.MsgAskReply, 2, 1, false), reply(api.MsgAskReply, 2, 3, false), reply(api.MsgAskReply, 2, 0, true), reply(api.MsgAskReply, 3, 0, true), reply(api.MsgVoteReply, 2, 1, false))
	wantText(t, "an asker for the term 2", short(n), "asker t1 v0 l0 c1 2-1")
	step(t, n, reply(api.MsgAskReply, 2, 2, false))
	wantText(t, "a candidate", short(n), "candidate t2 v1 l0 c1 2-1")
	step(t, n, reply(api.MsgAskReply, 3, 2, false), reply(api.MsgAskReply, 3, 3, false), reply(api.MsgAskReply, 2, 2, true), reply(api.MsgAskReply, 3, 2, true))
	wantText(t, "a candidate that is answered as an asker", short(n), "candidate t2 v1 l0 c1 2-1")
	ticks(n, 13)
	step(t, n, reply(api.MsgVoteReply, 2, 2, false))
	wantText(t, "an asker that is answered as a candidate", short(n), "asker t2 v1 l0 c1 2-1")
	step(t, n, reply(api.MsgAskReply, 2, 2, true), reply(api.MsgAskReply, 2, 3, false))
	wantText(t, "who has granted behind refusing", short(n), "candidate t3 v1 l0 c1 2-1")
	step(t, n, api.Message{Kind: api.MsgBeat, From: 3, To: 1, Term: 3})
	wantText(t, "a candidate that hears of a leader", short(n), "follower t3 v1 l3 c1 2-1")
	step(t, n, reply(api.MsgVoteReply, 2, 3, false))
	wantText(t, "a vote for who stands no more", short(n), "follower t3 v1 l3 c1 2-1")
}

func TestAlone(t *testing.T) { // P8.5: the leader in the same call
	for _, c := range []string{"1", "1|1", "1||2 3"} {
		n := open(t, 1, has(c, hard(1, 0, 1), ""))
		ticks(n, 11)
		n.Tick()
		r := n.Ready()
		if s := n.Status(); s.Role != api.RoleLeader || s.Term != 2 || s.Commit != s.Last || s.Vote != 1 {
			t.Errorf("(%s): %s", c, short(n))
		}
		if len(ofKind(r.Messages, api.MsgAsk, api.MsgVote)) > 0 || len(r.Committed) != len(r.Entries) || !r.New {
			t.Errorf("(%s): %+v", c, r)
		}
	}
	n := open(t, 1, has("1", hard(1, 0, 1), ""))
	step(t, n, api.Message{Kind: api.MsgNow, From: 2, To: 1, Term: 5})
	wantText(t, "by MsgNow", short(n), "leader t6 v1 l1 c2 2-2")
}

func TestNow(t *testing.T) { // P8.5
	now := api.Message{Kind: api.MsgNow, From: 2, To: 1, Term: 1}
	n := open(t, 1, begin())
	step(t, n, api.Message{Kind: api.MsgBeat, From: 2, To: 1, Term: 1})
	r := step(t, n, now)
	wantText(t, "a candidate at once", short(n), "candidate t2 v1 l0 c1 2-1")
	wantText(t, "what it sends", lines(r.Messages), "vote 1>2 t2 at 1:1; vote 1>3 t2 at 1:1")
	step(t, n, now)
	wantText(t, "the same again", short(n), "candidate t2 v1 l0 c1 2-1")

	n = open(t, 1, begin())
	step(t, n, api.Message{Kind: api.MsgBeat, From: 3, To: 1, Term: 1}, now)
	wantText(t, "from another than the leader", short(n), "follower t1 v0 l3 c1 2-1")
	l := leading(t, begin())
	step(t, l, api.Message{Kind: api.MsgNow, From: 2, To: 1, Term: 2})
	wantText(t, "to the leader", short(l), "leader t2 v1 l1 c1 2-2")
	learner := open(t, 1, has("2 3||1", hard(1, 0, 1), ""))
	step(t, learner, now)
	wantText(t, "to a learner", short(learner), "follower t1 v0 l2 c1 2-1")
}
