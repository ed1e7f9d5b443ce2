package host

import (
	"bytes"
	"fmt"
	"testing"

	"regatta/api"
)

// fill writes transactions with as many keys, and as great values, as there may be.
func (w *world) fill(n int, prefix string) {
	c := w.clients[0]
	for k := range n {
		var muts []api.Mut
		for i := range api.MaxKeys {
			key := fmt.Appendf(nil, "%s%03d%02d%s", prefix, k, i, bytes.Repeat([]byte("k"), 40))
			muts = append(muts, api.Mut{Kind: api.KindPut, Key: key, Value: bytes.Repeat([]byte{byte('a' + i%26)}, api.MaxValue)})
		}
		done := false
		for try := 0; !done; try++ {
			if try > 30 {
				w.fail("nothing is written")
			}
			c.time(func(ts uint64) {
				if done {
					return
				}
				x := api.Cmd{Kind: api.CmdPrewrite, Start: ts, Primary: muts[0].Key, One: true, Muts: muts}
				c.cmd(string(muts[0].Key), x, func(r api.Result) { done = done || r.Err == api.OK || r.Err == api.ErrCommitted })
			})
			w.rounds(1)
		}
	}
}

func TestGreat(t *testing.T) {
	t.Parallel()
	for _, n := range []int{10, 30, 60} { // some 220, 660, 1320 kilobytes
		t.Run(fmt.Sprint(n), func(t *testing.T) {
			w := newWorld(t, 1, api.Setup{Stores: 4, Clients: 1})
			w.rounds(40)
			w.cut = 3
			w.fill(n, "a")
			w.cut = 0
			w.rounds(40)
			w.settled()
			w.order(api.Order{Kind: api.OrderAdd, Region: firstRegion, Store: 4}, "")
			w.rounds(60)
			w.settled()
			if s, ok := w.hosts[3].State(firstRegion); !ok || len(s.Image().Cells) != n*api.MaxKeys {
				w.fail("the store 4 has not come to what the others have")
			}
			for i := range w.hosts {
				w.crash(i)
				w.open(i)
			}
			w.rounds(60)
			w.order(api.Order{Kind: api.OrderSplit, Region: firstRegion}, fmt.Sprintf("a%03d", n/2))
			w.rounds(60)
			w.settled()
			var right uint64
			for id := range w.eye.newest {
				right = max(right, id)
			}
			w.order(api.Order{Kind: api.OrderMerge, Region: right, Other: firstRegion}, "")
			w.rounds(120)
			w.settled()
			w.agree()
			t.Log(w.disks[0].Size(), len(w.eye.newest), w.eye.swallowed)
		})
	}
}

// TestGreatAndDying: a store that has much to keep in one call dies at any of its writes.
func TestGreatAndDying(t *testing.T) {
	t.Parallel()
	w := newWorld(t, 2, api.Setup{Stores: 3, Clients: 1})
	w.rounds(40)
	w.parts = true
	w.cut = 3
	w.fill(40, "a")
	w.cut = 0
	for n := 0; ; n++ {
		w.disks[2].Arm(n)
		if w.hosts[2] != nil || w.open(2) {
			w.rounds(3)
		}
		if w.hosts[2] != nil && n > 12 {
			break
		}
		w.hosts[2] = nil
		w.disks[2].Crash([]int{1 << 18, 1 << 18})
	}
	w.disks[2].Arm(1 << 40)
	w.rounds(40)
	w.settled()
	w.agree()
}

// TestBatches: what is kept in several batches.
func TestBatches(t *testing.T) {
	value := bytes.Repeat([]byte("v"), api.MaxRecord/4)
	unit := func(key string, n int) []api.Op {
		var l []api.Op
		for range n {
			l = append(l, api.Op{Kind: api.OpPut, Key: []byte(key), Value: value[:len(value)-len(key)]})
		}
		return l
	}
	for _, x := range []struct {
		units [][]api.Op
		want  string
	}{
		{nil, ""},
		{[][]api.Op{nil, nil}, ""},
		{[][]api.Op{unit("a", 1), nil, unit("b", 1)}, "ab"},
		{[][]api.Op{unit("a", 1), unit("b", 1), unit("c", 1)}, "ab c"},
		{[][]api.Op{unit("a", 1), unit("b", 2), unit("c", 1)}, "a bb c"},
		{[][]api.Op{unit("a", 3), unit("b", 1)}, "aaa b"},
	} {
		got := ""
		for i, b := range batches(x.units) {
			if i > 0 {
				got += " "
			}
			for _, o := range b {
				got += string(o.Key)
			}
		}
		if got != x.want {
			t.Errorf("batches: %q; want %q", got, x.want)
		}
	}
	many := make([][]api.Op, 1500)
	for i := range many {
		many[i] = []api.Op{{Kind: api.OpDelete, Key: []byte("k")}}
	}
	if l := batches(many); len(l) != 2 || len(l[0]) != maxOps || len(l[1]) != 500 {
		t.Errorf("batches of 1500 Ops: %d", len(l))
	}
}
