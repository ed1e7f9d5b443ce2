package raft

import (
	"math"
	"testing"

	"regatta/api"
)

func TestCompact(t *testing.T) { // P8.11
	n := open(t, 2, has("1 2 3", hard(3, 0, 6), "1=a 1(1,2,3||4) 2=b 2(1,2,3||5) 2=c 3=d"))
	for _, i := range []uint64{0, 1, 7, 8, math.MaxUint64} {
		want(t, "Compact out of bounds", n.Compact(i, []byte("s")), api.ErrArg)
	}
	if r := n.Ready(); r.New || r.Snap.Index != 0 {
		t.Errorf("what was refused is told: %+v", r)
	}
	want(t, "Compact", n.Compact(4, []byte("state")), api.OK)
	wantText(t, "how it stands", short(n), "follower t3 v0 l0 c6 5-7")
	wantText(t, "the entries up to it are gone", logText(n), "5:2(1 2 3 |  | 5) 6:2=c 7:3=d")
	r := n.Ready()
	wantText(t, "what is to be kept", textSnap(r.Snap)+textEntries(r.Entries)+textEntries(r.Committed), "<4:2 (1 2 3 |  | 4) state>")
	if !r.New || r.Emptied {
		t.Errorf("P8.13: %+v", r)
	}
	for _, i := range []uint64{3, 4, 7} {
		want(t, "Compact out of bounds", n.Compact(i, nil), api.ErrArg)
	}
	want(t, "Compact", n.Compact(6, nil), api.OK)
	r = n.Ready()
	wantText(t, "what is to be kept", textSnap(r.Snap), "<6:2 (1 2 3 |  | 5) >")
	if s := n.Status(); s.ConfIndex != 6 || s.First != 7 || s.Last != 7 {
		t.Errorf("P8.12: %+v", s)
	}
	wantText(t, "who is asked for elder entries", lines(step(t, n, api.Message{Kind: api.MsgAppend, From: 1, To: 2, Term: 3, Index: 6, LogTerm: 2, Commit: 7}).Messages), "append-reply 2>1 t3 at 6:0")
	n = open(t, 2, has("1 2 3", hard(1, 0, 2), "1"))
	n.Compact(2, nil)
	wantText(t, "the old snapshot's configuration", textSnap(n.Ready().Snap), "<2:1 (1 2 3) >")
}

func TestCompactAheadOfTelling(t *testing.T) { // P8.13: nothing is told as committed that a snapshot covers
	n := open(t, 2, has("1 2 3", hard(3, 0, 6), "1=a 1=b 2=c 2=d 2=e 3=f"))
	n.Compact(4, []byte("state"))
	r := n.Ready()
	wantText(t, "what is told", textSnap(r.Snap)+textEntries(r.Committed), "<4:2 (1 2 3) state>5:2=d 6:2=e")
}

func TestCompactOfWhatIsNotKeptYet(t *testing.T) { // P8.13: what was taken out is forgotten all the same
	n := open(t, 3, has("1 2 3", hard(2, 0, 1), "2=a 2=b 2=c"))
	n.Step(appendTo(3, 1, 1, 2, "3=x"))
	n.Compact(2, []byte("state"))
	r := n.Ready()
	wantText(t, "what is to be kept", textSnap(r.Snap)+textEntries(r.Entries), "<2:3 (1 2 3) state>")
	if !r.New || !r.Emptied {
		t.Errorf("the entries 3 and 4 are not to be forgotten: %+v", r)
	}
	n = open(t, 3, has("1 2 3", hard(2, 0, 1), "2=a 2=b 2=c"))
	n.Step(appendTo(3, 1, 1, 2, "3=x 3=y"))
	n.Compact(2, []byte("state"))
	r = n.Ready()
	wantText(t, "what is to be kept", textSnap(r.Snap)+textEntries(r.Entries), "<2:3 (1 2 3) state>3:3=y")
}

func TestMemberThatLacksWhatIsGone(t *testing.T) { // P8.11
	n := leading(t, has("1 2 3", hard(1, 0, 1), ""))
	step(t, n, got(n, 2, 2))
	n.Propose([]byte("x"))
	n.Propose([]byte("y"))
	step(t, n, got(n, 2, 4))
	n.Compact(3, []byte("state"))
	wantText(t, "who lacks it", lines(n.Ready().Messages), "snap 1>3 t2 <3:2 (1 2 3) state>")
	n.Propose([]byte("z"))
	wantText(t, "it is under way", lines(n.Ready().Messages), "append 1>2 t2 at 4:2 c4 5:2=z")
	wantText(t, "with a beat again", lines(ofKind(ticks(n, 2).Messages, api.MsgSnap)), "snap 1>3 t2 <3:2 (1 2 3) state>")
	wantText(t, "what is behind it", lines(step(t, n, got(n, 3, 3)).Messages), "append 1>3 t2 at 3:2 c4 4:2=y 5:2=z")
	n.Change(changes("~4"))
	step(t, n, got(n, 2, 6))
	refused := api.Message{Kind: api.MsgAppendReply, From: 4, To: 1, Term: 2, Refused: true, Index: 6}
	wantText(t, "a blank one", lines(step(t, n, refused).Messages), "snap 1>4 t2 <3:2 (1 2 3) state>")
}

func TestSnap(t *testing.T) { // P8.11
	snap := func(index, term uint64) api.Message {
		return api.Message{Kind: api.MsgSnap, From: 1, To: 3, Term: 4, Snap: api.Snap{Index: index, Term: term, Conf: of("1 2 3||9"), Data: []byte("s")}}
	}
	bad := snap(9, 4)
	bad.Snap.Conf = of("2 1")
	const log = "2:1=a 3:1=b 4:3(1 2 3 | 1) 5:3=d"
	rows := []struct {
		name          string
		m             api.Message
		reply         string
		stands, after string
		conf          string
		told          bool
	}{
		{"behind all", snap(9, 4), "append-reply 3>1 t4 at 9:0", "follower t4 v0 l1 c9 10-9", "", "1 2 3 |  | 9", true},
		{"the last one, of that term", snap(5, 3), "append-reply 3>1 t4 at 5:0", "follower t4 v0 l1 c5 6-5", "", "1 2 3 |  | 9", true},
		{"the last one, of another term", snap(5, 4), "append-reply 3>1 t4 at 5:0", "follower t4 v0 l1 c5 6-5", "", "1 2 3 |  | 9", true},
		{"one that it has", snap(4, 3), "append-reply 3>1 t4 at 4:0", "follower t4 v0 l1 c4 5-5", "5:3=d", "1 2 3 |  | 9", true},
		{"one that it has with another term", snap(4, 4), "append-reply 3>1 t4 at 4:0", "follower t4 v0 l1 c4 5-4", "", "1 2 3 |  | 9", true},
		{"what is known committed", snap(3, 1), "append-reply 3>1 t4 at 3:0", "follower t4 v0 l1 c3 2-5", log, "1 2 3 | 1", false},
		{"what is known committed, and more", snap(2, 1), "append-reply 3>1 t4 at 2:0", "follower t4 v0 l1 c3 2-5", log, "1 2 3 | 1", false},
		{"a configuration that is none", bad, "", "follower t4 v0 l0 c3 2-5", log, "1 2 3 | 1", false},
		{"a term above the leader's", snap(9, 5), "", "follower t4 v0 l0 c3 2-5", log, "1 2 3 | 1", false},
	}
	for _, r := range rows {
		n := open(t, 3, has("1 2 3", hard(3, 0, 3), "1=a 1=b 3(1,2,3|1) 3=d"))
		got := step(t, n, r.m)
		wantText(t, r.name, lines(got.Messages), r.reply)
		wantText(t, r.name, short(n), r.stands)
		wantText(t, r.name, logText(n), r.after)
		wantText(t, r.name, textConf(n.Status().Conf), r.conf)
		told := ""
		if r.told {
			told = textSnap(r.m.Snap)
			wantText(t, r.name+": those that stay", textEntries(got.Entries), r.after)
		}
		wantText(t, r.name, textSnap(got.Snap), told)
		if got.Emptied != r.told || r.told && len(got.Committed) > 0 || !r.told && len(got.Entries) > 0 {
			t.Errorf("P8.13: %s: %+v", r.name, got)
		}
	}
}

func TestSnapAndMore(t *testing.T) { // P8.13: all of it in one Ready
	n := open(t, 3, has("1 2 3", hard(3, 0, 3), "1=a 1=b 3=c 3=d"))
	n.Step(api.Message{Kind: api.MsgSnap, From: 1, To: 3, Term: 4, Snap: api.Snap{Index: 9, Term: 4, Conf: of("1 2 3"), Data: []byte("s")}})
	n.Step(appendTo(4, 9, 4, 11, "4=x 4=y 4=z"))
	r := n.Ready()
	wantText(t, "what is told", textSnap(r.Snap)+textEntries(r.Entries)+", "+textEntries(r.Committed)+", "+textHard(r.Hard), "<9:4 (1 2 3) s>10:4=x 11:4=y 12:4=z, 10:4=x 11:4=y, 4 0 11")
	if !r.Emptied || !r.New {
		t.Errorf("%+v", r)
	}
	n.Step(api.Message{Kind: api.MsgSnap, From: 1, To: 3, Term: 4, Snap: api.Snap{Index: 20, Term: 4, Conf: of("1 2 3"), Data: []byte("s")}})
	n.Step(appendTo(4, 20, 4, 21, "4=p 4=q"))
	n.Compact(21, []byte("own"))
	r = n.Ready()
	wantText(t, "with one of its own behind it", textSnap(r.Snap)+textEntries(r.Entries)+textEntries(r.Committed), "<21:4 (1 2 3) own>22:4=q")
	if !r.Emptied {
		t.Errorf("it came in the place of the whole log: %+v", r)
	}
	if r := n.Ready(); r.New || r.Emptied || r.Snap.Index != 0 || len(r.Entries)+len(r.Committed)+len(r.Messages) > 0 {
		t.Errorf("told again: %+v", r)
	}
}
