package raft

import (
	"fmt"
	"strings"
	"testing"

	"regatta/api"
)

func wantIndex(t *testing.T, what string, index uint64, e api.Errno, is uint64, err api.Errno) {
	t.Helper()
	if index != is || e != err {
		t.Errorf("%s: %d, error %d; want %d, error %d", what, index, e, is, err)
	}
}

func TestPropose(t *testing.T) { // P8.8
	n := open(t, 1, begin())
	for k := range 30 { // a follower, an asker, a candidate
		index, e := n.Propose([]byte("x"))
		wantIndex(t, short(n), index, e, 0, api.ErrLeader)
		index, e = n.Change(changes("+9"))
		wantIndex(t, short(n), index, e, 0, api.ErrLeader)
		want(t, short(n), n.Read(1), api.ErrLeader)
		want(t, short(n), n.Hand(1), api.ErrLeader)
		want(t, short(n), n.Hand(2), api.ErrLeader)
		if n.Tick(); k == 20 {
			step(t, n, reply(api.MsgAskReply, 2, 2, false))
		}
	}
	wantText(t, "nothing came of that", logText(n), "")
	n = leading(t, begin())
	for i, s := range []string{"x", "", "y"} {
		index, e := n.Propose([]byte(s))
		wantIndex(t, "Propose", index, e, uint64(i)+3, api.OK)
	}
	r := n.Ready()
	wantText(t, "what it keeps", textEntries(r.Entries), "3:2=x 4:2= 5:2=y")
	wantText(t, "what it sends", lines(r.Messages), "append 1>2 t2 at 1:1 c1 2:2 3:2=x 4:2= 5:2=y; append 1>3 t2 at 1:1 c1 2:2 3:2=x 4:2= 5:2=y")
}

func TestChange(t *testing.T) { // P8.8
	n := leading(t, has("1 2 3||5", hard(1, 0, 1), ""))
	index, e := n.Change(changes("~3"))
	wantIndex(t, "conf's error", index, e, 0, api.ErrConf)
	index, e = n.Change(changes("+5 -1 +4"))
	wantIndex(t, "Change", index, e, 3, api.OK)
	wantText(t, "it counts from when it is appended", textConf(n.Status().Conf), "2 3 4 5 | 1 2 3")
	for _, l := range []string{"", "~3", "+7"} {
		index, e = n.Change(changes(l))
		wantIndex(t, "while it is joint", index, e, 0, api.ErrBusy)
	}
	wantText(t, "the new one is sent it", lines(n.Ready().Messages[2:3]), "append 1>4 t2 at 3:2 c1")
	step(t, n, got(n, 2, 3), got(n, 4, 3))
	wantText(t, "no quorum yet", short(n)+" "+textConf(n.Status().Conf), "leader t2 v1 l1 c1 2-3 2 3 4 5 | 1 2 3")
	index, e = n.Propose([]byte("x"))
	wantIndex(t, "Propose while it is joint", index, e, 4, api.OK)
	r := step(t, n, got(n, 5, 3))
	wantText(t, "it is left", textEntries(r.Entries), "4:2=x 5:2(2 3 4 5)")
	wantText(t, "how it stands", short(n)+" "+textConf(n.Status().Conf), "leader t2 v1 l1 c3 2-5 2 3 4 5")
	index, e = n.Change(nil)
	wantIndex(t, "while it is not known committed", index, e, 0, api.ErrBusy)
	step(t, n, got(n, 2, 5), got(n, 4, 5))
	wantText(t, "it does not vote any more, and counts nothing", short(n), "leader t2 v1 l1 c3 2-5")
	r = step(t, n, got(n, 3, 5))
	wantText(t, "it leads no more", short(n), "follower t2 v1 l0 c5 2-5")
	wantText(t, "what is told as committed", textEntries(r.Committed), "4:2=x 5:2(2 3 4 5)")
	wantText(t, "the others are told", lines(ofKind(r.Messages, api.MsgAppend)), "append 1>2 t2 at 5:2 c5; append 1>3 t2 at 5:2 c5; append 1>4 t2 at 5:2 c5; append 1>5 t2 at 3:2 c5 4:2=x 5:2(2 3 4 5)")
	index, e = n.Propose(nil)
	wantIndex(t, "Propose", index, e, 0, api.ErrLeader)
}

func TestChangeOfLearners(t *testing.T) { // P8.8: it is not joint
	n := leading(t, begin())
	step(t, n, got(n, 2, 2))
	index, e := n.Change(changes("~4"))
	wantIndex(t, "Change", index, e, 3, api.OK)
	index, e = n.Change(changes("~5"))
	wantIndex(t, "while it is not known committed", index, e, 0, api.ErrBusy)
	step(t, n, got(n, 4, 3))
	wantText(t, "a learner counts nothing", short(n), "leader t2 v1 l1 c2 2-3")
	r := step(t, n, got(n, 3, 3))
	wantText(t, "nothing is to be left", short(n)+" "+textConf(n.Status().Conf), "leader t2 v1 l1 c3 2-3 1 2 3 |  | 4")
	if len(ofKind(r.Messages, api.MsgAppend)) != 3 {
		t.Errorf("the learner is not told: %s", lines(r.Messages))
	}
	index, e = n.Change(changes("-4"))
	wantIndex(t, "Change", index, e, 4, api.OK)
	wantText(t, "who has gone is sent nothing", lines(n.Ready().Messages), "append 1>2 t2 at 2:2 c3 3:2(1 2 3 |  | 4) 4:2(1 2 3); append 1>3 t2 at 3:2 c3 4:2(1 2 3)")
	before := short(n)
	step(t, n, got(n, 4, 4))
	wantText(t, "what it says counts nothing", short(n), before)
}

func TestANewLeaderLeaves(t *testing.T) { // P8.8: what its forerunner did not
	n := leading(t, has("1 2 3", hard(3, 0, 2), "2(1,2,4|1,2,3)"))
	wantText(t, "known committed from the beginning on", logText(n), "2:2(1 2 4 | 1 2 3) 3:4 4:4(1 2 4)")
	n = leading(t, has("1 2 3", hard(3, 0, 1), "2(1,2,4|1,2,3)"))
	wantText(t, "not yet", logText(n), "2:2(1 2 4 | 1 2 3) 3:4")
	step(t, n, got(n, 2, 3))
	wantText(t, "with its own entry", logText(n), "2:2(1 2 4 | 1 2 3) 3:4 4:4(1 2 4)")
}

func TestAloneAllAtOnce(t *testing.T) { // P8.7, P8.8
	n := leading(t, has("1", hard(1, 0, 1), ""))
	for i := range uint64(3) {
		index, e := n.Propose([]byte("x"))
		wantIndex(t, "Propose", index, e, i+3, api.OK)
		r := n.Ready()
		wantText(t, "kept and committed", textEntries(r.Entries)+", "+textEntries(r.Committed)+", "+textHard(r.Hard), fmt.Sprintf("%d:2=x, %d:2=x, 2 1 %d", i+3, i+3, i+3))
	}
	n.Change(changes("~2"))
	n.Change(changes("+2"))
	wantText(t, "with a second one", short(n), "leader t2 v1 l1 c6 2-7")
	step(t, n, got(n, 2, 7))
	step(t, n, got(n, 2, 8))
	n.Change(changes("-2"))
	step(t, n, got(n, 2, 9))
	wantText(t, "alone again", short(n)+" "+textConf(n.Status().Conf), "leader t2 v1 l1 c10 2-10 1")
}

// answer is a member's answer to the last MsgBeat of these.
func answer(t *testing.T, l []api.Message, from uint64) api.Message {
	t.Helper()
	for i := len(l) - 1; i >= 0; i-- {
		if m := l[i]; m.Kind == api.MsgBeat && m.To == from {
			return api.Message{Kind: api.MsgBeatReply, From: from, To: m.From, Term: m.Term, Context: m.Context}
		}
	}
	t.Fatalf("no beat to %d among %s", from, lines(l))
	return api.Message{}
}

func TestRead(t *testing.T) { // P8.9
	n := leading(t, begin())
	early := ticks(n, 2).Messages
	want(t, "Read", n.Read(77), api.OK)
	n.Propose([]byte("x"))
	r := step(t, n, answer(t, early, 2), answer(t, early, 3))
	if len(r.Reads) > 0 {
		t.Errorf("a beat that was sent ahead of the call: %v", r.Reads)
	}
	l := append(r.Messages, ticks(n, 2).Messages...)
	want(t, "Read", n.Read(77), api.OK)
	r = step(t, n, answer(t, l, 3))
	wantText(t, "by the last index of the call, committed or not", fmt.Sprint(r.Reads, short(n)), "[{77 2}]leader t2 v1 l1 c1 2-3")
	r = step(t, n, answer(t, l, 2))
	if len(r.Reads) > 0 {
		t.Errorf("a beat that was sent ahead of the second call, or the first one again: %v", r.Reads)
	}
	l = append(r.Messages, ticks(n, 2).Messages...)
	n.Read(0)
	n.Read(78)
	l = append(l, ticks(n, 2).Messages...)
	r = step(t, n, answer(t, l, 2))
	wantText(t, "several", fmt.Sprint(r.Reads), "[{77 3} {0 3} {78 3}]")
	if r := n.Ready(); len(r.Reads) > 0 {
		t.Errorf("told again: %v", r.Reads)
	}
	n.Read(79)
	wantText(t, "it waits for no tick", lines(ofKind(n.Ready().Messages, api.MsgBeat)), "beat 1>2 t2 c1 x7; beat 1>3 t2 c1 x7")
	l = ticks(n, 2).Messages
	late := answer(t, l, 2)
	late.Context += 1000
	refused := answer(t, l, 2)
	refused.Refused = true
	stranger := answer(t, l, 2)
	stranger.From = 9
	if r := step(t, n, late, refused, stranger, stranger); len(r.Reads) > 0 {
		t.Errorf("answers of none of its beats: %v", r.Reads)
	}
}

func TestReadOfAQuorum(t *testing.T) { // P8.9
	rows := []struct {
		conf, from string
		told       bool
	}{
		{"1", "", true}, {"1||2 3", "", true}, {"1 2", "", false}, {"1 2 3", "2", true}, {"1 2 3||4 5", "4 5", false}, {"1 2 3 4", "2", false}, {"1 2 3 4", "2 2", false}, {"1 2 3 4", "2 4", true},
		{"1 2 3|1 4 5", "2 3", false}, {"1 2 3|1 4 5", "2 4", true}, {"2 3|1 4", "2 3 4", true}, {"2 3|1 4", "2 3", false},
	}
	for _, r := range rows {
		n := leading(t, has("1 2 3", hard(1, 0, 1), "1("+strings.ReplaceAll(r.conf, " ", ",")+")"))
		want(t, "Read", n.Read(5), api.OK)
		ready := n.Ready()
		reads, l := ready.Reads, append(ready.Messages, ticks(n, 2).Messages...)
		for _, from := range list(r.from) {
			if len(reads) > 0 {
				t.Errorf("(%s) by less than %s: %v", r.conf, r.from, reads)
			}
			reads = append(reads, step(t, n, answer(t, l, from)).Reads...)
		}
		if (len(reads) == 1) != r.told {
			t.Errorf("(%s) by %s: %v", r.conf, r.from, reads)
		}
	}
}

func TestReadAndLateAnswers(t *testing.T) { // P8.9
	n := leading(t, has("1 2 3 4", hard(1, 0, 1), ""))
	early := ticks(n, 2).Messages
	n.Read(5)
	l := append(n.Ready().Messages, ticks(n, 2).Messages...)
	r := step(t, n, answer(t, l, 2), answer(t, early, 2), answer(t, l, 3))
	wantText(t, "an answer to an earlier beat takes nothing back", fmt.Sprint(r.Reads), "[{5 2}]")
}

func TestReadIsForgotten(t *testing.T) { // P8.9: when it stops being the leader
	n := leading(t, begin())
	n.Read(5)
	l := append(n.Ready().Messages, ticks(n, 2).Messages...)
	n.Step(answer(t, l, 2)) // it could be told, and is not yet
	n.Read(6)
	n.Step(api.Message{Kind: api.MsgVote, From: 3, To: 1, Term: 5})
	if r := step(t, n, answer(t, l, 3)); len(r.Reads) > 0 {
		t.Errorf("told by who leads no more: %v", r.Reads)
	}
	lead(t, n)
	if r := ticks(n, 2); len(r.Reads) > 0 {
		t.Errorf("told by who leads again: %v", r.Reads)
	}
	a := answer(t, l, 2)
	a.Term = n.Status().Term
	n.Read(7)
	n.Ready()
	if r := step(t, n, api.Message{Kind: api.MsgBeatReply, From: 2, To: 1, Term: 2, Context: 99}); len(r.Reads) > 0 {
		t.Errorf("by an answer of an elder term: %v", r.Reads)
	}
}

func TestReadWhileTheOthersGo(t *testing.T) { // P8.9: alone it is a quorum
	n := leading(t, has("1 2", hard(1, 0, 1), ""))
	step(t, n, got(n, 2, 2))
	n.Change(changes("-2"))
	n.Read(5)
	if r := n.Ready(); len(r.Reads) > 0 {
		t.Errorf("too early: %v", r.Reads)
	}
	r := step(t, n, got(n, 2, 3))
	wantText(t, "the other one has gone", fmt.Sprint(textConf(n.Status().Conf), r.Reads), "1[{5 3}]")
}

func TestHand(t *testing.T) { // P8.10
	n := leading(t, has("1 2 3||4", hard(1, 0, 1), ""))
	step(t, n, got(n, 2, 2), got(n, 3, 2), got(n, 4, 2))
	for _, to := range []uint64{0, 1, 4, 9, 1 << 63} {
		want(t, fmt.Sprint("Hand to ", to), n.Hand(to), api.ErrArg)
	}
	want(t, "Hand", n.Hand(2), api.OK)
	wantText(t, "it has all", lines(n.Ready().Messages), "now 1>2 t2")
	want(t, "Hand again", n.Hand(3), api.ErrBusy)
	want(t, "Hand again, to who does not vote", n.Hand(4), api.ErrArg)
	index, e := n.Propose(nil)
	wantIndex(t, "Propose", index, e, 0, api.ErrBusy)
	index, e = n.Change(changes("~1"))
	wantIndex(t, "Change", index, e, 0, api.ErrBusy)
	want(t, "Read", n.Read(5), api.OK)
	wantText(t, "said once", lines(ofKind(step(t, n, got(n, 2, 2)).Messages, api.MsgNow)), "")
	ticks(n, 9)
	want(t, "Hand behind 9 ticks", n.Hand(3), api.ErrBusy)
	r := ticks(n, 1)
	if len(ofKind(r.Messages, api.MsgNow)) > 0 {
		t.Errorf("it is over: %s", lines(r.Messages))
	}
	index, e = n.Propose([]byte("x"))
	wantIndex(t, "Propose behind 10 ticks", index, e, 3, api.OK)

	want(t, "Hand to one that lacks an entry", n.Hand(3), api.OK)
	if r := n.Ready(); len(ofKind(r.Messages, api.MsgNow)) > 0 {
		t.Errorf("it lacks an entry: %s", lines(r.Messages))
	}
	r = step(t, n, got(n, 2, 3), got(n, 3, 2))
	if len(ofKind(r.Messages, api.MsgNow)) > 0 {
		t.Errorf("it still lacks an entry: %s", lines(r.Messages))
	}
	r = step(t, n, got(n, 3, 3))
	wantText(t, "as soon as it has all", lines(ofKind(r.Messages, api.MsgNow)), "now 1>3 t2")
	step(t, n, api.Message{Kind: api.MsgVote, From: 3, To: 1, Term: 3, Index: 3, LogTerm: 2})
	wantText(t, "it is no leader any more", short(n), "follower t3 v3 l0 c3 2-3")
	lead(t, n)
	_, e = n.Propose(nil)
	want(t, "Propose of who leads again", e, api.OK)
}

func TestHandWhileJoint(t *testing.T) { // P8.8, P8.10: it proposes nothing more, and leaves later
	n := leading(t, begin())
	step(t, n, got(n, 2, 2), got(n, 3, 2))
	n.Change(changes("-3 +4"))
	want(t, "Hand to one of before", n.Hand(3), api.ErrArg)
	want(t, "Hand to one that comes", n.Hand(4), api.OK)
	r := step(t, n, got(n, 2, 3))
	wantText(t, "it lacks entries", short(n)+lines(ofKind(r.Messages, api.MsgNow)), "leader t2 v1 l1 c3 2-3")
	r = step(t, n, got(n, 4, 3))
	wantText(t, "it has all", lines(ofKind(r.Messages, api.MsgNow)), "now 1>4 t2")
	wantText(t, "nothing is appended", short(n), "leader t2 v1 l1 c3 2-3")
	r = ticks(n, 10)
	wantText(t, "when it hands over no more, the joint one is left", textEntries(r.Entries), "4:2(1 2 4)")
}

func TestMatch(t *testing.T) {
	wantMatch := func(n *Node, is ...uint64) {
		t.Helper()
		for i, index := range is {
			if m := n.Match(uint64(i) + 1); m != index {
				t.Errorf("Match(%d): %d; want %d", i+1, m, index)
			}
		}
	}
	wantMatch(open(t, 1, begin()), 0, 0, 0, 0) // who does not lead knows nothing
	n := leading(t, begin())
	wantMatch(n, 0, 0, 0, 0)
	n.Propose([]byte("x"))
	step(t, n, got(n, 2, 3), got(n, 3, 2))
	wantMatch(n, 0, 3, 2, 0)
	step(t, n, got(n, 2, 2)) // late
	wantMatch(n, 0, 3, 2, 0)
	n.Change(changes("-3"))
	step(t, n, got(n, 2, 4), got(n, 3, 4))
	step(t, n, got(n, 2, 5))
	wantMatch(n, 0, 5, 0, 0)
	step(t, n, api.Message{Kind: api.MsgBeat, From: 2, To: 1, Term: 9})
	wantMatch(n, 0, 0, 0, 0)
}
