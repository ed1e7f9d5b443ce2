package host

import (
	"bytes"
	"fmt"
	"reflect"
	"testing"

	"regatta/api"
	"regatta/disk"
	"regatta/engine"
	"regatta/letter"
	"regatta/pd"
	"regatta/state"
	"regatta/vault"
)

func setupOf(stores int) api.Setup { return api.Setup{Stores: stores, Clients: 1} }

func TestOpenRefuses(t *testing.T) { // P18.1
	ok := setupOf(3)
	for _, x := range []struct {
		store int
		s     api.Setup
		d     *disk.Disk
	}{
		{0, ok, disk.New()}, {-1, ok, disk.New()}, {4, ok, disk.New()}, {1, ok, nil},
		{1, api.Setup{}, disk.New()}, {1, api.Setup{Stores: -1, Clients: 1}, disk.New()}, {1, api.Setup{Stores: 1, Clients: -1}, disk.New()},
		{1, api.Setup{Stores: 0, Clients: 1}, disk.New()}, {1, api.Setup{Stores: api.MaxStores + 1, Clients: 1}, disk.New()},
		{1, api.Setup{Stores: 1}, disk.New()}, {1, api.Setup{Stores: 1, Clients: api.MaxClients + 1}, disk.New()},
	} {
		if h, e := Open(x.store, x.s, x.d); h != nil || e != api.ErrArg {
			t.Errorf("Open(%d, %+v): error %d; want ErrArg", x.store, x.s, e)
		}
		if x.d != nil && len(x.d.Names()) > 0 {
			t.Errorf("Open(%d, %+v) has written", x.store, x.s)
		}
	}
	for _, s := range []api.Setup{{Stores: 1, Clients: 1}, {Stores: api.MaxStores, Clients: api.MaxClients}, {Stores: 2, Clients: 2, Policy: api.Policy{Replicas: -1, Split: -1, Merge: 1 << 60}}} {
		if h, e := Open(s.Stores, s, disk.New()); h == nil || e != api.OK {
			t.Errorf("Open(%d, %+v): error %d", s.Stores, s, e)
		}
	}
}

func TestOpenOfWhatIsNoStore(t *testing.T) { // P18.1: the engine's errors, and the vault's
	d := disk.New()
	d.Arm(3)
	if h, e := Open(1, setupOf(1), d); h != nil || e != api.ErrDead {
		t.Errorf("a disk that dies: error %d", e)
	}
	if h, e := Open(1, setupOf(1), d); h != nil || e != api.ErrDead {
		t.Errorf("a disk that is dead: error %d", e)
	}
	d = disk.New()
	d.Write("root", []byte("no root"))
	if h, e := Open(1, setupOf(1), d); h != nil || e != api.ErrEngine {
		t.Errorf("what no engine left: error %d", e)
	}
	region2 := api.Saved{Hard: api.Hard{Term: 1, Commit: 1}, Snap: api.Snap{Index: 1, Term: 1, Conf: api.Conf{Voters: []uint64{4}}, Data: []byte("no state")}}
	for what, batch := range map[string][]api.Op{
		"a peer without a number":      vault.Save(2, api.Ready{Hard: api.Hard{Term: 1}}),
		"a peer with a wrong number":   append(vault.Save(2, api.Ready{Hard: api.Hard{Term: 1}}), api.Op{Kind: api.OpPut, Key: nameKey(2), Value: []byte{0x80}}),
		"a peer of the number 0":       append(vault.Save(2, api.Ready{Hard: api.Hard{Term: 1}}), name(2, 0)),
		"a snapshot of nothing":        append(vault.Save(2, api.Ready{Hard: region2.Hard, Snap: region2.Snap}), name(2, 4)),
		"a driver that is blank":       append(vault.Save(1, api.Ready{Hard: api.Hard{Term: 1}}), name(1, 1)),
		"a driver of nothing":          append(vault.Save(1, api.Ready{Hard: region2.Hard, Snap: region2.Snap}), name(1, 1)),
		"known committed what is not":  append(vault.Save(2, api.Ready{Hard: api.Hard{Term: 1, Commit: 7}}), name(2, 4)),
		"what the vault does not know": append(vault.Save(2, api.Ready{Hard: api.Hard{Term: 1}})[:0:0], api.Op{Kind: api.OpPut, Key: append(vault.Save(2, api.Ready{})[0].Key, 7), Value: []byte("x")}),
	} {
		d := disk.New()
		e, _ := engine.Open(d)
		e.Write(batch)
		if h, e := Open(1, setupOf(1), d); h != nil || e != api.ErrVault {
			t.Errorf("%s: error %d; want ErrVault", what, e)
		}
	}
}

// TestFirstGroups: P18.1: what the first stores begin with, as it lies in the vault.
func TestFirstGroups(t *testing.T) {
	for stores := 1; stores <= api.MaxStores; stores++ {
		n := min(stores, 3)
		r := api.Region{ID: 2, Epoch: api.Epoch{Conf: 1, Version: 1}}
		var first, second []uint64
		for i := range n {
			r.Peers = append(r.Peers, api.Peer{ID: uint64(4 + i), Store: i + 1})
			first, second = append(first, uint64(1+i)), append(second, uint64(4+i))
		}
		s, _ := state.New(r, api.Image{})
		s.Skip(1)
		for store := 1; store <= stores; store++ {
			d := disk.New()
			h, e := Open(store, setupOf(stores), d)
			if e != api.OK {
				t.Fatal(e)
			}
			var want []api.PeerView
			if store <= n {
				want = []api.PeerView{{Store: store, Peer: uint64(3 + store), Region: r, Role: api.RoleFollower, Term: 1, Applied: 1, Commit: 1}}
			}
			if got := h.Peers(); fmt.Sprint(got) != fmt.Sprint(want) {
				t.Errorf("P18.3: the store %d of %d has %+v; want %+v", store, stores, got, want)
			}
			eng, _ := engine.Open(d)
			groups, _ := vault.Groups(eng)
			if store > n {
				if len(groups) > 0 {
					t.Errorf("P18.1: the store %d of %d has the groups %v", store, stores, groups)
				}
				continue
			}
			if !reflect.DeepEqual(groups, []uint64{1, 2}) {
				t.Errorf("P18.1: the store %d of %d has the groups %v", store, stores, groups)
			}
			wantSaved(t, eng, 1, first, pd.New(100).Export())
			wantSaved(t, eng, 2, second, s.Export())
			if dr, ok := h.Driver(); !ok || !bytes.Equal(dr.Export(), pd.New(100).Export()) {
				t.Errorf("P18.3: the store %d of %d has another driver", store, stores)
			}
			if st, ok := h.State(2); !ok || !bytes.Equal(st.Export(), s.Export()) {
				t.Errorf("P18.3: the store %d of %d has another state", store, stores)
			}
			for _, id := range []uint64{0, 1, 3, 1 << 63} {
				if st, ok := h.State(id); ok || st != nil {
					t.Errorf("P18.3: a state of the region %d", id)
				}
			}
		}
	}
}

func wantSaved(t *testing.T, e *engine.Engine, group uint64, voters []uint64, data []byte) {
	t.Helper()
	got, there, code := vault.Load(e, group)
	want := api.Saved{Hard: api.Hard{Term: 1, Commit: 1}, Snap: api.Snap{Index: 1, Term: 1, Conf: api.Conf{Voters: voters}, Data: data}}
	if !there || code != api.OK || fmt.Sprint(got) != fmt.Sprint(want) {
		t.Errorf("P18.1: the group %d: %+v, %d; want %+v", group, got, code, want)
	}
}

// TestOpenTwice: where nothing was done, a host that is opened anew is the same; and a crash in Open leaves a right store.
func TestOpenTwice(t *testing.T) {
	for n := 0; ; n++ {
		d := disk.New()
		d.Arm(n)
		h, e := Open(1, setupOf(3), d)
		if e != api.OK && (h != nil || e != api.ErrDead) {
			t.Fatalf("Open on a disk that dies: error %d", e)
		}
		d.Crash([]int{n, n, n})
		again, code := Open(1, setupOf(3), d)
		if code != api.OK || len(again.Peers()) != 1 || again.Peers()[0].Peer != 4 {
			t.Fatalf("P18.12: behind a crash in Open (%d): error %d", n, code)
		}
		if _, ok := again.Driver(); !ok {
			t.Fatal("P18.12: no driver")
		}
		if e == api.OK {
			break
		}
	}
}

// TestTwoWorlds: P18.13, R4: the same calls make the same letters, and two hosts have nothing in common.
func TestTwoWorlds(t *testing.T) {
	t.Parallel()
	for seed := range uint64(4) {
		var logs [2][]string
		for k := range logs {
			w := newWorld(t, seed, api.Setup{Stores: 1 + int(seed+2)%5, Clients: 2, Policy: policyOf(5 * seed)})
			w.heard = func(from int, l []api.Letter) {
				logs[k] = append(logs[k], fmt.Sprint(from, l, w.hosts[from-1].Peers()))
			}
			w.run(1500)
		}
		if len(logs[0]) == 0 || len(logs[0]) != len(logs[1]) {
			t.Fatalf("R4: %d and %d answers", len(logs[0]), len(logs[1]))
		}
		for i := range logs[0] {
			if logs[0][i] != logs[1][i] {
				t.Fatalf("R4: the answer %d is\n%s and\n%s", i, logs[0][i], logs[1][i])
			}
		}
	}
}

// TestMemory: R3: what is handed in is neither changed nor kept, what is answered is new.
func TestMemory(t *testing.T) {
	w := newWorld(t, 3, setupOf(3))
	w.rounds(40)
	for _, h := range w.hosts {
		l := h.Peers()
		before := fmt.Sprint(l)
		l[0].Region.Peers[0].Store = 77
		l[0].Region.Peers = append(l[0].Region.Peers[:0], api.Peer{})
		if got := fmt.Sprint(h.Peers()); got != before {
			t.Errorf("R3: Peers: %s; was %s", got, before)
		}
	}
	p := w.leader(2)
	key := []byte("m")
	l, e := p.Order(api.Order{Kind: api.OrderSplit, Region: 2}, key)
	key[0] = 0xff
	w.done(p.store-1, l, e)
	w.rounds(40)
	if r := w.eye.newest[2]; string(r.End) != "m" {
		t.Errorf("R3: the key of an order was kept: %+v", r)
	}
	// A letter is overwritten as soon as it was received: the run goes on as if it was not.
	w.heard = func(_ int, l []api.Letter) {}
	w.rounds(1)
	w.scratch = true
	w.rounds(40)
	w.settled()
}

// leader: the host whose peer leads the region.
func (w *world) leader(region uint64) *Host {
	for _, h := range w.hosts {
		if h != nil && h.leading(region) != nil {
			return h
		}
	}
	w.fail("nobody leads the region %d", region)
	return nil
}

// driver: the host whose peer leads the placement driver.
func (w *world) driver() *Host {
	for _, h := range w.hosts {
		if h != nil && h.driverLeader() != nil {
			return h
		}
	}
	w.fail("nobody leads the placement driver")
	return nil
}

func TestBadLetters(t *testing.T) { // P18.2: letters that are not understood, or come from no actor, do nothing
	w := newWorld(t, 5, setupOf(3))
	w.rounds(40)
	w.tick(0)
	w.tick(1)
	w.tick(2)
	good := 0
	for _, p := range w.way {
		h := w.hosts[p.To-1]
		before := textHost(h)
		try := func(what string, from int, b []byte) {
			l, e := h.Receive(from, b)
			if len(l) > 0 || e != api.OK || textHost(h) != before {
				t.Errorf("P18.2: %s did something: %d letters, error %d", what, len(l), e)
			}
		}
		for _, from := range []int{0, -1, w.setup.Stores + w.setup.Clients + 1, 1 << 40} {
			try("a letter from nobody", from, p.Data)
		}
		for i := range p.Data {
			b := bytes.Clone(p.Data)
			b[i] ^= 1 << (i % 8)
			try("a turned letter", p.from, b)
			try("half a letter", p.from, p.Data[:i])
		}
		try("a letter and more", p.from, append(bytes.Clone(p.Data), 0))
		parts, _ := letter.Read(p.Data)
		for _, x := range parts {
			if x.Kind == letter.Message {
				try("what stores say, from a client", w.setup.Stores+1, letter.Write([]letter.Part{x}))
				good++
			}
		}
	}
	if good == 0 {
		t.Error("no message was tried")
	}
}
