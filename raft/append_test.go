package raft

import (
	"fmt"
	"strings"
	"testing"

	"regatta/api"
)

// appendTo is a MsgAppend of the leader 1 to peer 3.
func appendTo(term, index, logTerm, commit uint64, log string) api.Message {
	return api.Message{Kind: api.MsgAppend, From: 1, To: 3, Term: term, Index: index, LogTerm: logTerm, Commit: commit, Entries: entries(index, log)}
}

func TestAppend(t *testing.T) { // P8.6
	const log = "2:1=a 3:1=b 4:3=c 5:3=d" // behind the snapshot of index 1; known committed up to 3
	rows := []struct {
		name         string
		m            api.Message
		reply, after string
		commit       uint64
	}{
		{"behind all", appendTo(4, 5, 3, 3, "4=e"), "append-reply 3>1 t4 at 6:0", log + " 6:4=e", 3},
		{"nothing", appendTo(4, 5, 3, 3, ""), "append-reply 3>1 t4 at 5:0", log, 3},
		{"nothing, further ahead", appendTo(4, 2, 1, 3, ""), "append-reply 3>1 t4 at 2:0", log, 3},
		{"what it has", appendTo(4, 1, 1, 3, "1=a 1=b"), "append-reply 3>1 t4 at 3:0", log, 3},
		{"what it has, and more", appendTo(4, 3, 1, 3, "3=c 3=d 4=e"), "append-reply 3>1 t4 at 6:0", log + " 6:4=e", 3},
		{"another one at the end", appendTo(4, 4, 3, 3, "4=e"), "append-reply 3>1 t4 at 5:0", "2:1=a 3:1=b 4:3=c 5:4=e", 3},
		{"another one, and all behind it", appendTo(4, 3, 1, 3, "4=e"), "append-reply 3>1 t4 at 4:0", "2:1=a 3:1=b 4:4=e", 3},
		{"another one behind some that it has", appendTo(4, 2, 1, 3, "1=b 3=c 4=e 4=f"), "append-reply 3>1 t4 at 6:0", "2:1=a 3:1=b 4:3=c 5:4=e 6:4=f", 3},
		{"of another term there", appendTo(4, 5, 4, 5, "4=e"), "append-reply 3>1 t4 no at 5:0 x5", log, 3},
		{"of another term, in what is committed", appendTo(4, 2, 3, 5, "4=e"), "append-reply 3>1 t4 no at 2:0 x5", log, 3},
		{"behind its end", appendTo(4, 6, 4, 5, "4=e"), "append-reply 3>1 t4 no at 6:0 x5", log, 3},
		{"far behind its end", appendTo(4, 1<<40, 4, 5, ""), "append-reply 3>1 t4 no at 1099511627776:0 x5", log, 3},
		{"another one that is committed", appendTo(4, 1, 1, 5, "1=a 2=z 4=y"), "", log, 3},
		{"another one that is committed, of a leader of its term", appendTo(3, 2, 1, 5, "2=z"), "", log, 3},

		{"committed as far as it is the leader's", appendTo(4, 2, 1, 5, "1=b 3=c"), "append-reply 3>1 t4 at 4:0", log, 4},
		{"committed up to Index", appendTo(4, 4, 3, 5, ""), "append-reply 3>1 t4 at 4:0", log, 4},
		{"committed up to what it is sent", appendTo(4, 5, 3, 9, "4=e 4=f"), "append-reply 3>1 t4 at 7:0", log + " 6:4=e 7:4=f", 7},
		{"committed up to what the leader says", appendTo(4, 5, 3, 6, "4=e 4=f"), "append-reply 3>1 t4 at 7:0", log + " 6:4=e 7:4=f", 6},
		{"less than it knows", appendTo(4, 5, 3, 1, "4=e"), "append-reply 3>1 t4 at 6:0", log + " 6:4=e", 3},

		{"ahead of the snapshot", appendTo(4, 0, 0, 3, "1 1=a 1=b 3=c 4=e"), "append-reply 3>1 t4 at 5:0", "2:1=a 3:1=b 4:3=c 5:4=e", 3},
		{"ahead of the snapshot, and no further", appendTo(4, 0, 0, 3, "1"), "append-reply 3>1 t4 at 1:0", log, 3},
		{"ahead of the snapshot, another one there", appendTo(4, 0, 0, 3, "0 1=a"), "", log, 3},

		{"an index left out", api.Message{Kind: api.MsgAppend, From: 1, To: 3, Term: 4, Index: 5, LogTerm: 3, Commit: 9, Entries: entries(6, "4=e")}, "", log, 3},
		{"terms that fall", appendTo(4, 5, 3, 9, "4=e 3=f"), "", log, 3},
		{"a term below the one ahead", appendTo(4, 5, 3, 9, "2=e"), "", log, 3},
		{"a term above the leader's", appendTo(4, 5, 3, 9, "5=e"), "", log, 3},
		{"a configuration that is none", appendTo(4, 5, 3, 9, "4(2,1)"), "", log, 3},
	}
	for _, r := range rows {
		n := open(t, 3, has("1 2 3", hard(3, 0, 3), "1=a 1=b 3=c 3=d"))
		got := step(t, n, r.m)
		wantText(t, r.name, lines(got.Messages), r.reply)
		wantText(t, r.name, logText(n), r.after)
		if s := n.Status(); s.Commit != r.commit || s.Term != r.m.Term || s.Role != api.RoleFollower || s.Leader != 1 && r.reply != "" {
			t.Errorf("%s: %s; want commit %d", r.name, short(n), r.commit)
		}
	}
}

func TestKnownToBeTheLeaders(t *testing.T) { // P8.6: whatever says how much is committed
	beat := func(term, commit uint64) api.Message {
		return api.Message{Kind: api.MsgBeat, From: 1, To: 3, Term: term, Commit: commit}
	}
	n := open(t, 3, has("1 2 3", hard(3, 0, 1), "1=a 1=b 3=c 3=d"))
	at := func(what string, commit uint64) {
		t.Helper()
		if s := n.Status(); s.Commit != commit {
			t.Errorf("%s: %s; want commit %d", what, short(n), commit)
		}
	}
	step(t, n, beat(4, 5))
	at("of the new leader it knows nothing", 1)
	step(t, n, appendTo(4, 3, 1, 1, ""))
	step(t, n, beat(4, 5))
	at("as far as it has agreed", 3)
	step(t, n, appendTo(4, 2, 1, 3, ""), appendTo(4, 4, 3, 3, "4=e"))
	step(t, n, beat(4, 99))
	at("what it was sent", 5)
	wantText(t, "its log", logText(n), "2:1=a 3:1=b 4:3=c 5:4=e")
	step(t, n, appendTo(4, 5, 4, 5, "4=f 4=g"))
	step(t, n, beat(5, 7))
	at("of the next leader it knows nothing", 5)
	step(t, n, appendTo(5, 6, 4, 5, "5=g 5=h 5=i"), appendTo(5, 6, 4, 5, "4=x"), beat(5, 9))
	at("what a leader takes back, which none does", 7)

	n = open(t, 3, has("1 2 3", hard(3, 0, 1), "1=a 1=b 3=c 3=d"))
	step(t, n, beat(3, 4))
	at("an entry of the leader's own term is the leader's, behind a crash too", 4)
	n = open(t, 3, has("1 2 3", hard(4, 0, 1), "1=a 1=b 3=c 3=d"))
	step(t, n, beat(4, 4))
	at("one of an elder term need not be", 1)
}

func TestNewLeader(t *testing.T) { // P8.6
	n := open(t, 1, has("1 2 3||7", hard(3, 0, 2), "2=a 2=b"))
	ticks(n, 14)
	step(t, n, reply(api.MsgAskReply, 2, 4, false))
	r := step(t, n, reply(api.MsgVoteReply, 2, 4, false))
	wantText(t, "its entry", textEntries(r.Entries), "4:4")
	wantText(t, "what it sends", lines(r.Messages), "append 1>2 t4 at 3:2 c2 4:4; append 1>3 t4 at 3:2 c2 4:4; append 1>7 t4 at 3:2 c2 4:4")
	refused := api.Message{Kind: api.MsgAppendReply, From: 3, To: 1, Term: 4, Refused: true, Index: 3, Context: 7}
	wantText(t, "to one whose log is another one", lines(step(t, n, refused).Messages), "append 1>3 t4 at 2:2 c2 3:2=b 4:4")
	wantText(t, "the same again", lines(step(t, n, refused).Messages), "")
	refused.From, refused.Context = 7, 1
	wantText(t, "to one whose log is short", lines(step(t, n, refused).Messages), "append 1>7 t4 at 1:1 c2 2:2=a 3:2=b 4:4")
	wantText(t, "to one that has it", lines(step(t, n, got(n, 3, 4)).Messages), "append 1>2 t4 at 3:2 c4 4:4; append 1>3 t4 at 4:4 c4; append 1>7 t4 at 1:1 c4 2:2=a 3:2=b 4:4")
	refused.From, refused.Index = 3, 4
	wantText(t, "what was refused ahead of that", lines(step(t, n, refused).Messages), "")
	step(t, n, got(n, 3, 3))
	n.Propose([]byte("c"))
	wantText(t, "behind what was said ahead of that", lines(n.Ready().Messages[1:2]), "append 1>3 t4 at 4:4 c4 5:4=c")
}

func TestMemberThatLacksMany(t *testing.T) { // P8.6: no answer waits for a beat
	n := leading(t, has("1 2 3", hard(1, 0, 1), strings.Repeat("1 ", 300)))
	at, lacked := uint64(1), api.Message{Kind: api.MsgAppendReply, From: 3, To: 1, Term: 2, Refused: true, Index: 301, Context: 1}
	for m := lacked; at < 302; m = got(n, 3, at) {
		l := step(t, n, m).Messages
		if len(l) == 0 || l[len(l)-1].To != 3 || l[len(l)-1].Index != at || len(l[len(l)-1].Entries) == 0 {
			t.Fatalf("behind %d: %s", at, lines(l))
		}
		at += uint64(len(l[len(l)-1].Entries))
	}
}

func TestManyEntries(t *testing.T) { // P8.6: at most MaxEntries in a message, the next ones with the answer
	n := leading(t, begin())
	step(t, n, got(n, 2, 2), got(n, 3, 2))
	for range 200 {
		n.Propose([]byte("x"))
	}
	first := ofKind(n.Ready().Messages, api.MsgAppend)
	if len(first) != 2 || len(first[0].Entries) != api.MaxEntries || first[0].Entries[0].Index != 3 {
		t.Fatalf("%d messages, %d entries", len(first), len(first[0].Entries))
	}
	n.Propose([]byte("y"))
	wantText(t, "more, while so much is under way", lines(n.Ready().Messages), "")
	for at := uint64(66); at < 203; at += api.MaxEntries {
		l := ofKind(step(t, n, got(n, 2, at)).Messages, api.MsgAppend)
		if len(l) != 2 && len(l) != 1 || l[0].To != 2 || l[0].Index != at || len(l[0].Entries) != int(min(203-at, api.MaxEntries)) {
			t.Fatalf("behind %d: %s", at, lines(l))
		}
	}
}

func TestBeat(t *testing.T) { // P8.13: each beat ticks, with what is lacked
	n := leading(t, has("1 2 3||7", hard(1, 0, 1), ""))
	step(t, n, got(n, 2, 2), got(n, 3, 2), got(n, 7, 2))
	n.Propose([]byte("x"))
	step(t, n, got(n, 2, 3))
	wantText(t, "a tick", lines(ticks(n, 1).Messages), "")
	l := ticks(n, 1).Messages
	wantText(t, "two ticks", lines(l), "beat 1>2 t2 c3 x1; beat 1>3 t2 c3 x1; beat 1>7 t2 c3 x1; append 1>3 t2 at 2:2 c3 3:2=x; append 1>7 t2 at 2:2 c3 3:2=x")
	step(t, n, got(n, 3, 3), got(n, 7, 3))
	wantText(t, "three ticks", lines(ticks(n, 1).Messages), "")
	wantText(t, "four ticks", lines(ticks(n, 1).Messages), "beat 1>2 t2 c3 x2; beat 1>3 t2 c3 x2; beat 1>7 t2 c3 x2")
	f := open(t, 3, begin())
	wantText(t, "the answer", lines(step(t, f, l[1]).Messages), "beat-reply 3>1 t2 x1")
	wantText(t, "who is led", short(f), "follower t2 v0 l1 c1 2-1")
}

func TestCommit(t *testing.T) { // P8.7
	rows := []struct {
		conf string
		at   string // peers and what they have
		want uint64
	}{
		{"1 2 3", "", 1}, {"1 2 3", "2 5", 5}, {"1 2 3", "2 4 3 5", 5}, {"1 2 3", "2 4", 4}, {"1 2 3", "2 3", 1}, {"1 2 3", "2 3 3 3", 1}, // 3 is of an elder term
		{"1 2 3 4", "2 5", 1}, {"1 2 3 4", "2 5 3 4", 4}, {"1 2 3||8 9", "8 5 9 5", 1}, {"1 2 3", "8 5 9 5", 1},
		{"1 2 3|1 4 5", "2 5 3 5", 1}, {"1 2 3|1 4 5", "4 5 5 5", 1}, {"2 3|1 4", "2 5 3 5", 1}, {"2 3|1 4", "2 5 3 4 4 5", 4},
		{"1 2 3|1 4 5", "2 5 4 4", 5},                               // with 4 the joint one is left, behind which the 5 of two is enough
		{"1 2 3", "2 6", 1}, {"1 2 3", "2 18446744073709551615", 1}, // more than it has itself
		{"1 2 3", "2 5 2 4", 5}, {"1 2 3 4", "2 5 2 4 3 5", 5}, // what comes late
	}
	for _, r := range rows {
		n := leading(t, has("1 2 3", hard(2, 0, 1), "2=a 2("+strings.ReplaceAll(r.conf, " ", ",")+")"))
		n.Propose([]byte("c"))
		l := list(r.at)
		for i := 0; i < len(l); i += 2 {
			step(t, n, got(n, l[i], l[i+1]))
		}
		if s := n.Status(); s.Commit != r.want {
			t.Errorf("(%s) %s: %s; want commit %d", r.conf, r.at, short(n), r.want)
		}
	}
}

func TestALeaderHearsNoOther(t *testing.T) { // P8.15
	n := leading(t, begin())
	n.Propose([]byte("x"))
	n.Ready()
	before := short(n) + logText(n)
	for _, m := range []api.Message{
		{Kind: api.MsgAppend, From: 2, To: 1, Term: 2, Index: 1, LogTerm: 1, Commit: 9, Entries: entries(1, "2=z 2=z")},
		{Kind: api.MsgBeat, From: 2, To: 1, Term: 2, Commit: 3},
		{Kind: api.MsgSnap, From: 2, To: 1, Term: 2, Snap: api.Snap{Index: 9, Term: 2, Conf: of("2")}},
		{Kind: api.MsgNow, From: 2, To: 1, Term: 2},
	} {
		wantText(t, line(m), fmt.Sprint(lines(step(t, n, m).Messages), short(n), logText(n)), before)
	}
}
