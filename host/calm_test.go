package host

import (
	"fmt"
	"slices"
	"testing"

	"regatta/api"
	"regatta/letter"
	"regatta/region"
)

// reader begins a transaction and reads a key, as a client would: it asks again what is not answered for 4 ticks.
type reader struct {
	*client
	key    string
	ts     uint64
	region api.Region
	store  int
	hinted bool
	waited int
	done   bool
}

func (r *reader) tick() {
	if r.done {
		return
	}
	if r.waited%4 == 0 {
		r.next()
	}
	r.waited++
}

// next asks for what is lacking.
func (r *reader) next() {
	switch {
	case r.ts == 0:
		r.time(func(ts uint64) {
			if r.ts == 0 {
				r.ts = ts
				r.next()
			}
		})
	case r.store == 0:
		for store := 1; store <= min(founders, r.w.setup.Stores); store++ {
			r.ask(store, letter.Part{Kind: letter.AskRegion, Key: []byte(r.key)}, func(x letter.Part) {
				if x.PdResult.Err == api.OK && r.store == 0 {
					r.region, r.store = x.Region, max(x.Leader, x.Region.Peers[0].Store)
					r.get()
				}
			})
		}
	case r.hinted:
		r.hinted = false
		r.get()
	default:
		// Somebody else may lead.
		i := slices.IndexFunc(r.region.Peers, func(p api.Peer) bool { return p.Store == r.store })
		r.store = r.region.Peers[(i+1)%len(r.region.Peers)].Store
		r.get()
	}
}

func (r *reader) get() {
	r.ask(r.store, letter.Part{Kind: letter.AskGet, Group: r.region.ID, Epoch: r.region.Epoch, Key: []byte(r.key), TS: r.ts}, func(x letter.Part) {
		switch x.Result.Err {
		case api.OK:
			r.done = true
		case api.ErrLeader:
			r.store, r.hinted = x.Leader, true
		case api.ErrEpoch, api.ErrRange:
			r.store = 0
		}
	})
}

// TestReadsInACalm is W7: whatever is ordered, one behind the other, a read that is begun at once is answered.
func TestReadsInACalm(t *testing.T) {
	t.Parallel()
	worst := map[int]int{}
	for seed := range uint64(*runs+3) / 4 {
		t.Run(fmt.Sprint(seed), func(t *testing.T) {
			w := newWorld(t, seed+*first, api.Setup{Stores: 1 + int(seed+3)%5, Clients: 1})
			w.rounds(40)
			for k := range 40 {
				o := w.anyOrder()
				t.Log(k, o)
				slow := w.readAll(40)
				worst[o.Kind] = max(worst[o.Kind], slow)
			}
			w.rounds(40)
			w.settled()
		})
	}
	t.Log("rounds, by the kind of order:", worst)
}

// readAll: how many rounds it takes till a key of each region is read.
func (w *world) readAll(n int) int {
	var l []*reader
	for id, r := range w.eye.newest {
		if !w.eye.swallowed[id] {
			l = append(l, &reader{client: w.clients[0], key: string(r.Start) + "\x00"})
		}
	}
	slow := 0
	for round := range n {
		for _, r := range l {
			r.tick()
		}
		w.rounds(1)
		if slices.ContainsFunc(l, func(r *reader) bool { return !r.done }) {
			slow = round + 1
		}
	}
	for _, r := range l {
		if !r.done {
			i := region.Find([]api.Region{r.region}, []byte(r.key))
			w.fail("W7: %q is not read at %d of %+v (%d) on the store %d\n%s", r.key, r.ts, r.region, i, r.store, fmt.Sprint(w.eye.newest))
		}
	}
	return slow
}
