package host

import (
	"fmt"
	"testing"

	"regatta/api"
	"regatta/letter"
)

// once asks a host as a client, lets rounds go by, and tells the answer; false, if there is none.
func (w *world) once(to int, x letter.Part, rounds int) (letter.Part, bool) {
	var got letter.Part
	answered := false
	w.clients[0].ask(to, x, func(y letter.Part) { got, answered = y, true })
	w.rounds(rounds)
	return got, answered
}

// stamp: a fresh timestamp.
func (w *world) stamp() uint64 {
	var ts uint64
	w.clients[0].time(func(got uint64) { ts = got })
	w.rounds(2)
	if ts == 0 {
		w.fail("no timestamp")
	}
	return ts
}

func (w *world) epoch(id uint64) api.Epoch { return w.eye.newest[id].Epoch }

func (w *world) doCmd(id uint64, c api.Cmd) (api.Result, bool) {
	c.Epoch = w.epoch(id)
	x, ok := w.once(w.leader(id).store, letter.Part{Kind: letter.AskCmd, Group: id, Cmd: c}, 4)
	return x.Result, ok
}

func (w *world) get(id uint64, key string, ts uint64) letter.Part {
	w.t.Helper()
	x, ok := w.once(w.leader(id).store, letter.Part{Kind: letter.AskGet, Group: id, Epoch: w.epoch(id), Key: []byte(key), TS: ts}, 2)
	if !ok {
		w.fail("no answer")
	}
	return x
}

func put(start uint64, key, value string) api.Cmd {
	return api.Cmd{Kind: api.CmdPrewrite, Start: start, Primary: []byte(key), Muts: []api.Mut{{Kind: api.KindPut, Key: []byte(key), Value: []byte(value)}}}
}

func onePhase(start uint64, key, value string) api.Cmd {
	c := put(start, key, value)
	c.One = true
	return c
}

func TestCommands(t *testing.T) { // P18.5: what is proposed is answered when it is applied
	for stores := 1; stores <= 3; stores++ {
		w := calmWorld(t, stores)
		s := w.stamp()
		r, ok := w.doCmd(2, put(s, "a", "1"))
		if !ok || r.Err != api.OK || r.Commit <= s {
			t.Fatalf("P18.5: prewrite: %+v, %v", r, ok)
		}
		if x := w.get(2, "a", w.stamp()); x.Result.Err != api.ErrLocked || x.Result.Lock.Start != s {
			t.Errorf("P18.8: a read meets the lock: %+v", x.Result)
		}
		at := w.stamp()
		if r, _ := w.doCmd(2, api.Cmd{Kind: api.CmdCommit, Start: s, Commit: at, Keys: [][]byte{[]byte("a")}}); r.Err != api.OK {
			t.Errorf("P18.5: commit: %+v", r)
		}
		if x := w.get(2, "a", at-1); x.Found || x.Result.Err != api.OK {
			t.Errorf("P18.8: ahead of the commit: %+v", x)
		}
		if x := w.get(2, "a", at); !x.Found || string(x.Value) != "1" {
			t.Errorf("P18.8: behind the commit: %+v", x)
		}
		// What is refused is told, too.
		if r, _ := w.doCmd(2, put(s, "a", "2")); r.Err != api.ErrCommitted || r.Commit != at || string(r.Key) != "a" {
			t.Errorf("P18.5: a prewrite of a committed one: %+v", r)
		}
		c := put(w.stamp(), "a", "3")
		c.Epoch = api.Epoch{Conf: 1, Version: 9}
		x, _ := w.once(w.leader(2).store, letter.Part{Kind: letter.AskCmd, Group: 2, Cmd: c}, 4)
		if x.Result.Err != api.ErrEpoch || !same(x.Result.New, w.eye.newest[2]) {
			t.Errorf("P18.5: at another epoch: %+v", x.Result)
		}
		for kind := -1; kind <= api.CmdPeers+1; kind++ {
			if kind < api.CmdPrewrite || kind > api.CmdGC {
				if r, _ := w.doCmd(2, api.Cmd{Kind: kind, Start: 5, ID: 7, Keys: [][]byte{[]byte("m")}}); r.Err != api.ErrArg {
					t.Errorf("P18.6: a client's command of the kind %d: %+v", kind, r)
				}
			}
		}
		if r, _ := w.doCmd(2, api.Cmd{Kind: api.CmdFloor, Commit: 1}); r.Err != api.OK || !same(r.New, w.eye.newest[2]) {
			t.Errorf("which region did it: %+v", r)
		}
		w.settled()
	}
}

func TestReads(t *testing.T) { // P18.8
	w := calmWorld(t, 3)
	for _, key := range []string{"a", "b", "c", "d"} {
		if r, _ := w.doCmd(2, onePhase(w.stamp(), key, "of "+key)); r.Err != api.OK {
			t.Fatalf("%+v", r)
		}
	}
	s := w.stamp()
	w.doCmd(2, put(s, "e", "x"))
	ts := w.stamp()
	ask := letter.Part{Group: 2, Epoch: w.epoch(2), TS: ts, Key: []byte("b"), End: []byte("d"), Limit: 9}
	ask.Kind = letter.AskScan
	x, _ := w.once(w.leader(2).store, ask, 2)
	if fmt.Sprint(x.Pairs) != fmt.Sprint([]api.Pair{{Key: []byte("b"), Value: []byte("of b")}, {Key: []byte("c"), Value: []byte("of c")}}) {
		t.Errorf("P18.8: Scan: %+v", x)
	}
	ask.Limit = 1
	if x, _ = w.once(w.leader(2).store, ask, 2); len(x.Pairs) != 1 {
		t.Errorf("P18.8: Scan of one: %+v", x)
	}
	ask.Kind, ask.Key, ask.End, ask.Limit = letter.AskLocks, nil, nil, 1<<40
	if x, _ = w.once(w.leader(2).store, ask, 2); len(x.Locks) != 1 || x.Locks[0].Start != s {
		t.Errorf("P18.8: Locks: %+v", x)
	}
	// Who asks for locks reads nothing.
	ask.TS = 1 << 50
	w.once(w.leader(2).store, ask, 2)
	if r, _ := w.doCmd(2, onePhase(w.stamp(), "f", "1")); r.Err != api.OK || r.Commit >= 1<<50 {
		t.Errorf("P18.8: the read mark is moved by an ask for locks: %+v", r)
	}
	ask.Epoch.Version = 7
	for _, kind := range []int{letter.AskGet, letter.AskScan, letter.AskLocks} {
		ask.Kind = kind
		if x, _ = w.once(w.leader(2).store, ask, 2); x.Result.Err != api.ErrEpoch || !same(x.Result.New, w.eye.newest[2]) {
			t.Errorf("P18.8: at another epoch: %+v", x)
		}
		for _, ts := range []uint64{0, endOfTime, 1<<64 - 1} {
			bad := ask
			bad.TS = ts
			if x, _ = w.once(w.leader(2).store, bad, 2); x.Result.Err != api.ErrArg {
				t.Errorf("P18.8: at the time %d: %+v", ts, x)
			}
		}
		// Who does not lead tells who does.
		other := w.leader(2).store%3 + 1
		if x, _ = w.once(other, ask, 2); x.Result.Err != api.ErrLeader || x.Leader != w.leader(2).store {
			t.Errorf("P18.8: of who does not lead: %+v", x)
		}
		bad := ask
		bad.Group = 77
		if x, _ = w.once(other, bad, 2); x.Result.Err != api.ErrLeader || x.Leader != 0 {
			t.Errorf("P18.8: of a region that is not here: %+v", x)
		}
	}
	w.settled()
}

// TestReadOfAnOldLeader: P18.8: who is cut off reads nothing, whatever it believes; and what it proposes is not answered as done.
func TestReadOfAnOldLeader(t *testing.T) {
	w := calmWorld(t, 3)
	old := w.leader(2)
	s := w.stamp()
	w.cut = old.store
	w.rounds(40)
	if old.leading(2) == nil {
		t.Fatal("it does not lead any more")
	}
	ts := s
	ask := letter.Part{Kind: letter.AskGet, Tag: letter.Tag{Seq: 1000}, Group: 2, Epoch: w.epoch(2), Key: []byte("a"), TS: ts}
	cmd := letter.Part{Kind: letter.AskCmd, Tag: letter.Tag{Seq: 1001}, Group: 2, Cmd: put(s, "a", "1")}
	cmd.Cmd.Epoch = w.epoch(2)
	var told []letter.Part
	w.heard = func(from int, l []api.Letter) {
		for _, x := range l {
			if parts, _ := letter.Read(x.Data); x.To > 3 {
				told = append(told, parts...)
			}
		}
	}
	w.tell(4, old.store, ask)
	w.tell(4, old.store, cmd)
	w.rounds(20)
	if len(told) > 0 {
		t.Fatalf("P18.8: who is cut off answers %+v", told)
	}
	w.cut = 0
	w.rounds(20)
	got := map[uint64]api.Errno{}
	for _, x := range told {
		got[x.Tag.Seq] = x.Result.Err
	}
	if len(got) != 2 || got[1000] != api.ErrLeader || got[1001] != api.ErrUnknown {
		t.Errorf("P18.5: when the leader has gone: %+v", got)
	}
	w.settled()
}

// TestHandingOver: P18.5: what is not proposed is not answered as unknown.
func TestHandingOver(t *testing.T) {
	w := calmWorld(t, 3)
	lead := w.leader(2)
	w.cut = lead.store%3 + 1
	s := w.stamp()
	w.doCmd(2, put(s, "a", "1")) // so that the heir lacks something
	last := lead.peers[2].Status().Last
	w.order(api.Order{Kind: api.OrderLeader, Region: 2, Store: w.cut}, "")
	c := put(s+1, "c", "1")
	c.Epoch = w.epoch(2)
	got := w.tell(4, lead.store, letter.Part{Kind: letter.AskCmd, Tag: letter.Tag{Seq: 7}, Group: 2, Cmd: c})[letter.Answer]
	if len(got) != 1 || got[0].Tag.Seq != 7 || got[0].Result.Err != api.ErrLeader {
		t.Errorf("P18.5: of who hands over: %+v", got)
	}
	if s := lead.peers[2].Status(); s.Last != last {
		t.Errorf("P18.5: it is proposed: %+v", s)
	}
	w.cut = 0
	w.rounds(40)
	w.settled()
}

// TestReadMark: P18.8: what was read at a time is not written behind it, whoever leads.
func TestReadMark(t *testing.T) {
	t.Parallel()
	for _, what := range []string{"stays", "leader", "crash", "split", "merge"} {
		for _, async := range []bool{true, false} {
			t.Run(fmt.Sprint(what, " ", async), func(t *testing.T) {
				w := calmWorld(t, 3)
				w.split(2, "m")
				w.rounds(20)
				low, high := w.alive()[0].ID, w.alive()[1].ID
				key, id := "x", high
				if what == "split" {
					key, id = "b", low
				}
				s := w.stamp()
				for range 50 {
					w.stamp()
				}
				ts := w.stamp()
				if x := w.get(id, key, ts); x.Found || x.Result.Err != api.OK {
					t.Fatalf("%+v", x)
				}
				switch what {
				case "leader":
					w.order(api.Order{Kind: api.OrderLeader, Region: id, Store: w.leader(id).store%3 + 1}, "")
				case "crash":
					w.crash(w.leader(id).store - 1)
					w.calm()
				case "split":
					w.split(low, "a")
				case "merge":
					w.merge(high, low)
				}
				w.rounds(40)
				for _, r := range w.alive() {
					if r.ID != id && string(r.Start) <= key && (len(r.End) == 0 || key < string(r.End)) {
						id = r.ID
					}
				}
				c := onePhase(s, key, "1")
				c.One, c.Async = !async, async
				r, ok := w.doCmd(id, c)
				if !ok || r.Err != api.OK || r.Commit <= ts {
					t.Errorf("P18.8: read at %d, written at %d: %+v, %v", ts, r.Commit, r, ok)
				}
			})
		}
	}
}

// TestNoMarkYet: P18.8: till a new leader has a timestamp, it proposes nothing that needs one.
func TestNoMarkYet(t *testing.T) {
	for _, what := range []string{"new", "absorbed"} {
		t.Run(what, func(t *testing.T) {
			w := calmWorld(t, 3)
			w.split(2, "m")
			w.rounds(20)
			s := w.stamp()
			high := w.alive()[1].ID
			lead := w.driver().store%3 + 1 // so that its asks go in letters
			w.order(api.Order{Kind: api.OrderLeader, Region: 2, Store: w.driver().store}, "")
			w.rounds(20)
			if what == "absorbed" {
				w.order(api.Order{Kind: api.OrderLeader, Region: 2, Store: lead}, "")
				w.rounds(20)
			}
			w.pass = func(from, _ int, x letter.Part) bool { return from != lead || x.Kind != letter.AskTime }
			if what == "absorbed" {
				w.merge(high, 2)
			} else {
				w.order(api.Order{Kind: api.OrderLeader, Region: 2, Store: lead}, "")
			}
			w.rounds(20)
			if w.leader(2).store != lead || what == "absorbed" && len(w.alive()) != 1 {
				t.Fatal("it does not come about")
			}
			p := w.leader(2).peers[2]
			last := p.Status().Last
			c := onePhase(s, "a", "1")
			c.Epoch = w.epoch(2)
			var got []letter.Part
			for _, async := range []bool{true, false} {
				c.Async, c.One = async, !async
				w.clients[0].ask(lead, letter.Part{Kind: letter.AskCmd, Group: 2, Cmd: c}, func(x letter.Part) { got = append(got, x) })
			}
			w.rounds(10)
			if len(got) > 0 || p.Status().Last != last {
				t.Fatalf("P18.8: without a mark: %+v", got)
			}
			// Reads go on, and so does what needs no mark.
			ts := s + 1
			if x := w.get(2, "b", ts); x.Result.Err != api.OK {
				t.Errorf("P18.8: a read: %+v", x)
			}
			if r, ok := w.doCmd(2, put(s, "c", "1")); !ok || r.Err != api.OK {
				t.Errorf("P18.8: a plain prewrite: %+v", r)
			}
			w.pass = nil
			w.rounds(10)
			if len(got) != 2 || got[0].Result.Err != api.OK || got[0].Result.Commit <= ts {
				t.Errorf("P18.8: with a mark: %+v", got)
			}
			w.settled()
		})
	}
}

// TestNeverMarked: P18.8: where a leader goes ahead of having a timestamp, what waited for one was not proposed.
func TestNeverMarked(t *testing.T) {
	w := calmWorld(t, 3)
	lead := w.driver().store%3 + 1
	w.pass = func(from, _ int, x letter.Part) bool { return from != lead || x.Kind != letter.AskTime }
	w.order(api.Order{Kind: api.OrderLeader, Region: 2, Store: lead}, "")
	w.rounds(20)
	c := onePhase(w.stamp(), "a", "1")
	c.Epoch = w.epoch(2)
	var got []letter.Part
	w.clients[0].ask(lead, letter.Part{Kind: letter.AskCmd, Group: 2, Cmd: c}, func(x letter.Part) { got = append(got, x) })
	w.rounds(4)
	w.order(api.Order{Kind: api.OrderLeader, Region: 2, Store: w.driver().store}, "")
	w.rounds(20)
	if len(got) != 1 || got[0].Result.Err != api.ErrLeader {
		t.Errorf("P18.8: %+v", got)
	}
	w.settled()
}

// TestStaleMark: P18.8: a timestamp that was asked for by an elder office is none for this one.
func TestStaleMark(t *testing.T) {
	w := calmWorld(t, 3)
	var old []packet
	w.pass = func(from, to int, x letter.Part) bool {
		if x.Kind == letter.Reply && x.TS != 0 && x.Tag.Group == 2 {
			old = append(old, packet{from, api.Letter{To: to, Data: letter.Write([]letter.Part{x})}})
		}
		return true
	}
	lead := w.driver().store%3 + 1
	w.order(api.Order{Kind: api.OrderLeader, Region: 2, Store: w.driver().store}, "")
	w.rounds(20)
	w.order(api.Order{Kind: api.OrderLeader, Region: 2, Store: lead}, "")
	w.rounds(20)
	if len(old) == 0 {
		t.Fatal("nobody has asked for a timestamp")
	}
	w.order(api.Order{Kind: api.OrderLeader, Region: 2, Store: w.driver().store}, "")
	w.rounds(20)
	w.pass = func(from, _ int, x letter.Part) bool { return from != lead || x.Kind != letter.AskTime }
	w.order(api.Order{Kind: api.OrderLeader, Region: 2, Store: lead}, "")
	w.rounds(20)
	for _, p := range old {
		w.deliver(p)
	}
	if w.leader(2).store != lead || w.leader(2).peers[2].office.marked {
		t.Errorf("P18.8: an old timestamp is taken")
	}
}

func TestHowMuchWaits(t *testing.T) { // a leader that is cut off gathers no more than so much
	w := calmWorld(t, 3)
	lead := w.leader(2)
	w.cut = lead.store
	s := w.eye.newest[2].Epoch
	for k := range 2 * maxWaits {
		c := put(uint64(k+1), fmt.Sprint(k), "")
		c.Epoch = s
		x := letter.Part{Kind: letter.AskCmd, Tag: letter.Tag{Seq: uint64(k)}, Group: 2, Cmd: c}
		if k%2 == 0 {
			x = letter.Part{Kind: letter.AskGet, Tag: x.Tag, Group: 2, Epoch: s, TS: uint64(k + 1)}
		}
		got := w.tell(4, lead.store, x)[letter.Answer]
		if k < maxWaits && len(got) > 0 || k >= maxWaits && (len(got) != 1 || got[0].Result.Err != api.ErrLeader) {
			t.Fatalf("the ask %d: %+v", k, got)
		}
		w.way = nil
	}
	for range 400 {
		w.tick(lead.store - 1)
		w.way = nil
	}
	for _, p := range lead.peers {
		if s := p.Status(); s.Last-s.Commit > 2*maxWaits {
			t.Errorf("the group %d has %d entries that are not decided", p.group, s.Last-s.Commit)
		}
	}
	w.cut = 0
	w.rounds(60)
	w.settled()
}
