package raft

import (
	"testing"

	"regatta/api"
)

func TestReady(t *testing.T) { // P8.13
	n := open(t, 3, begin())
	nothing := func(what string) {
		t.Helper()
		if r := n.Ready(); r.New || r.Emptied || r.Snap.Index != 0 || len(r.Entries)+len(r.Committed)+len(r.Messages)+len(r.Reads) > 0 || textHard(r.Hard) != textHard(n.hard) {
			t.Errorf("%s: %+v", what, r)
		}
	}
	nothing("at first")
	ticks(n, 5)
	nothing("ticks alone")
	r := step(t, n, appendTo(2, 1, 1, 1, "2=a 2=b 2=c"))
	wantText(t, "entries", textHard(r.Hard)+", "+textEntries(r.Entries), "2 0 1, 2:2=a 3:2=b 4:2=c")
	if !r.New || len(r.Committed) > 0 {
		t.Errorf("%+v", r)
	}
	nothing("behind that")
	if r = step(t, n, appendTo(2, 2, 2, 1, "2=b 2=c")); r.New || len(r.Messages) != 1 || len(r.Entries) > 0 {
		t.Errorf("what it has: %+v", r)
	}
	r = step(t, n, appendTo(2, 4, 2, 3, ""))
	wantText(t, "committed", textHard(r.Hard)+", "+textEntries(r.Entries)+textEntries(r.Committed), "2 0 3, 2:2=a 3:2=b")
	if !r.New {
		t.Errorf("Hard is another one: %+v", r)
	}
	r = step(t, n, api.Message{Kind: api.MsgVote, From: 2, To: 3, Term: 3, Index: 9, LogTerm: 2})
	wantText(t, "a vote", textHard(r.Hard), "3 2 3")
	if !r.New || len(r.Entries)+len(r.Committed) > 0 {
		t.Errorf("%+v", r)
	}
	if r = step(t, n, api.Message{Kind: api.MsgVote, From: 2, To: 3, Term: 3, Index: 9, LogTerm: 2}); r.New || len(r.Messages) != 1 {
		t.Errorf("the same vote: %+v", r)
	}
}

func TestReadyOfManySteps(t *testing.T) { // P8.13: what is still there, in the order in which it came
	n := open(t, 3, has("1 2 3", hard(1, 0, 1), "1=a 1=b 1=c 1=d"))
	r := step(t, n,
		appendTo(2, 4, 1, 1, "2=e 2=f"),
		appendTo(3, 3, 1, 2, "3=g 3=h 3=i"),
		appendTo(3, 5, 3, 3, ""),
		appendTo(4, 4, 3, 3, "4=j"),
		api.Message{Kind: api.MsgBeat, From: 1, To: 3, Term: 4, Commit: 5, Context: 9})
	wantText(t, "entries from the first one that was put in", textEntries(r.Entries), "4:3=g 5:4=j")
	wantText(t, "committed", textEntries(r.Committed)+", "+textHard(r.Hard), "2:1=a 3:1=b 4:3=g 5:4=j, 4 0 5")
	wantText(t, "messages", lines(r.Messages), "append-reply 3>1 t2 at 6:0; append-reply 3>1 t3 at 6:0; append-reply 3>1 t3 at 5:0; append-reply 3>1 t4 at 5:0; beat-reply 3>1 t4 x9")
}
