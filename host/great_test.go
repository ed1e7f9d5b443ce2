package host

import (
	"bytes"
	"fmt"
	"testing"

	"regatta/api"
	"regatta/disk"
	"regatta/engine"
	"regatta/letter"
	"regatta/vault"
)

// fill writes transactions with as many keys, and as great values, as there may be.
func (w *world) fill(n int, prefix string) {
	c := w.clients[0]
	for k := range n {
		var muts []api.Mut
		for i := range api.MaxKeys {
			key := fmt.Appendf(nil, "%s%03d%02d%s", prefix, k, i, bytes.Repeat([]byte("k"), 40))
			muts = append(muts, api.Mut{Kind: api.KindPut, Key: key, Value: bytes.Repeat([]byte{byte('a' + i%26)}, api.MaxValue)})
		}
		done := false
		for try := 0; !done; try++ {
			if try > 30 {
				w.fail("nothing is written")
			}
			c.time(func(ts uint64) {
				if done {
					return
				}
				x := api.Cmd{Kind: api.CmdPrewrite, Start: ts, Primary: muts[0].Key, One: true, Muts: muts}
				c.cmd(string(muts[0].Key), x, func(r api.Result) { done = done || r.Err == api.OK || r.Err == api.ErrCommitted })
			})
			w.rounds(1)
		}
	}
}

func TestGreat(t *testing.T) {
	t.Parallel()
	for _, n := range []int{10, 30, 60} { // some 220, 660, 1320 kilobytes
		t.Run(fmt.Sprint(n), func(t *testing.T) {
			w := newWorld(t, 1, api.Setup{Stores: 4, Clients: 1})
			w.rounds(40)
			w.cut = 3
			w.fill(n, "a")
			w.cut = 0
			w.rounds(40)
			w.settled()
			w.order(api.Order{Kind: api.OrderAdd, Region: firstRegion, Store: 4}, "")
			w.rounds(60)
			w.settled()
			if s, ok := w.hosts[3].State(firstRegion); !ok || len(s.Image().Cells) != n*api.MaxKeys {
				w.fail("the store 4 has not come to what the others have")
			}
			for i := range w.hosts {
				w.crash(i)
				w.open(i)
			}
			w.rounds(60)
			w.order(api.Order{Kind: api.OrderSplit, Region: firstRegion}, fmt.Sprintf("a%03d", n/2))
			w.rounds(60)
			w.settled()
			var right uint64
			for id := range w.eye.newest {
				right = max(right, id)
			}
			w.order(api.Order{Kind: api.OrderMerge, Region: right, Other: firstRegion}, "")
			w.rounds(120)
			w.settled()
			w.agree()
			t.Log(w.disks[0].Size(), len(w.eye.newest), w.eye.swallowed)
		})
	}
}

// TestGreatAndDying: a store that has much to keep in one call dies at any of its writes.
func TestGreatAndDying(t *testing.T) {
	t.Parallel()
	w := newWorld(t, 2, api.Setup{Stores: 3, Clients: 1})
	w.rounds(40)
	w.parts = true
	w.cut = 3
	w.fill(40, "a")
	w.cut = 0
	for n := 0; ; n++ {
		w.disks[2].Arm(n)
		if w.hosts[2] != nil || w.open(2) {
			w.rounds(3)
		}
		if w.hosts[2] != nil && n > 12 {
			break
		}
		w.hosts[2] = nil
		w.disks[2].Crash([]int{1 << 18, 1 << 18})
	}
	w.disks[2].Arm(1 << 40)
	w.rounds(40)
	w.settled()
	w.agree()
}

// TestCut: P18.2: a snapshot and the entries behind it that are too much for one batch; each part of it is a right store.
func TestCut(t *testing.T) {
	t.Parallel()
	data := bytes.Repeat([]byte("d"), room)
	entry := func(index uint64, n int) api.Entry {
		return api.Entry{Kind: api.EntryData, Term: 1, Index: index, Data: bytes.Repeat([]byte{byte(index)}, n)}
	}
	old := api.Ready{New: true, Hard: api.Hard{Term: 1, Commit: 1}, Snap: api.Snap{Index: 1, Term: 1, Conf: api.Conf{Voters: []uint64{7}}}}
	for i := range uint64(20) {
		old.Entries = append(old.Entries, entry(i+2, 1<<15))
	}
	snap := api.Snap{Index: 9, Term: 1, Conf: api.Conf{Voters: []uint64{7, 8}}, Data: data}
	for _, x := range []struct {
		what    string
		r       api.Ready
		entries []uint64 // those that are there behind it
		between []uint64 // those that are there, if only a part is
	}{
		{"those that stay are told anew", api.Ready{Hard: api.Hard{Term: 2, Commit: 9}, Snap: snap, Emptied: true, Entries: old.Entries[8:]}, span(10, 21), span(10, 21)},
		{"none stays", api.Ready{Hard: api.Hard{Term: 2, Commit: 9}, Snap: snap, Emptied: true}, nil, nil},
		{"its own one, and new entries", api.Ready{Hard: api.Hard{Term: 2, Commit: 9}, Snap: snap, Entries: []api.Entry{entry(22, 1<<18), entry(23, 1<<18)}}, span(10, 23), span(10, 21)},
	} {
		for n := 0; ; n++ {
			d := disk.New()
			h, _ := Open(1, setupOf(1), d)
			p, _ := newPeer(9, 7, api.Saved{})
			h.keepLog(p, old)
			if code := h.write(); code != api.OK {
				t.Fatalf("%s: error %d ahead of it", x.what, code)
			}
			d.Arm(n)
			h.keepLog(p, x.r)
			code := h.write()
			d.Crash(nil)
			e, _ := engine.Open(d)
			got, there, bad := vault.Load(e, 9)
			text, want, part := indexes(got), fmt.Sprint(snap.Index, x.entries), fmt.Sprint(snap.Index, x.between)
			if before := fmt.Sprint(1, span(2, 21)); !there || bad != api.OK || text != want && (code == api.OK || text != before && text != part) {
				t.Fatalf("P18.2: %s: behind %d calls there are %s; want %s (errors %d, %d)", x.what, n, text, want, code, bad)
			}
			if code == api.OK {
				break
			}
			if n > 100 {
				t.Fatalf("P18.2: %s: it cannot be kept: error %d", x.what, code)
			}
		}
	}
}

func span(from, to uint64) []uint64 {
	var l []uint64
	for i := from; i <= to; i++ {
		l = append(l, i)
	}
	return l
}

func indexes(s api.Saved) string {
	var l []uint64
	for _, x := range s.Entries {
		l = append(l, x.Index)
	}
	return fmt.Sprint(s.Snap.Index, l)
}

// TestTooGreat: what is asked for is more than an entry may have: no store is lost by it.
func TestTooGreat(t *testing.T) {
	w := calmWorld(t, 3)
	long := make([]byte, 2*api.MaxRecord)
	for _, x := range []api.Cmd{
		{Kind: api.CmdPrewrite, Start: 5, Primary: long},
		{Kind: api.CmdCheck, Start: 5, Primary: long[:maxEntry]},
		{Kind: api.CmdPrewrite, Start: 5, Primary: long, Async: true},
	} {
		if r, ok := w.doCmd(2, x); !ok || r.Err != api.ErrArg {
			t.Errorf("a command of the kind %d of so many bytes: %v, %v", x.Kind, r, ok)
		}
	}
	for _, x := range []api.PdCmd{
		{Kind: api.PdMerge, N: 5, Region: api.Region{Start: long}, Other: api.Region{ID: 2}},
		{Kind: api.PdRegister, TS: 5, TTL: 5, Region: api.Region{End: long}},
	} {
		if got, ok := w.once(w.driver().store, letter.Part{Kind: letter.AskDriver, Pd: x}, 4); ok {
			t.Errorf("a command of the kind %d of so many bytes: %+v", x.Kind, got.PdResult)
		}
	}
	w.settled()
	if r, ok := w.doCmd(2, onePhase(w.stamp(), "a", "1")); !ok || r.Err != api.OK {
		t.Errorf("behind it: %+v, %v", r, ok)
	}
}

// TestBatches: what is kept in several batches.
func TestBatches(t *testing.T) {
	value := bytes.Repeat([]byte("v"), api.MaxRecord/4)
	unit := func(key string, n int) []api.Op {
		var l []api.Op
		for range n {
			l = append(l, api.Op{Kind: api.OpPut, Key: []byte(key), Value: value[:len(value)-len(key)]})
		}
		return l
	}
	for _, x := range []struct {
		units [][]api.Op
		want  string
	}{
		{nil, ""},
		{[][]api.Op{nil, nil}, ""},
		{[][]api.Op{unit("a", 1), nil, unit("b", 1)}, "ab"},
		{[][]api.Op{unit("a", 1), unit("b", 1), unit("c", 1)}, "ab c"},
		{[][]api.Op{unit("a", 1), unit("b", 2), unit("c", 1)}, "a bb c"},
		{[][]api.Op{unit("a", 3), unit("b", 1)}, "aaa b"},
	} {
		got := ""
		for i, b := range batches(x.units) {
			if i > 0 {
				got += " "
			}
			for _, o := range b {
				got += string(o.Key)
			}
		}
		if got != x.want {
			t.Errorf("batches: %q; want %q", got, x.want)
		}
	}
	many := make([][]api.Op, 1500)
	for i := range many {
		many[i] = []api.Op{{Kind: api.OpDelete, Key: []byte("k")}}
	}
	if l := batches(many); len(l) != 2 || len(l[0]) != maxOps || len(l[1]) != 500 {
		t.Errorf("batches of 1500 Ops: %d", len(l))
	}
}
