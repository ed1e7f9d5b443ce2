package host

import (
	"bytes"
	"slices"

	"regatta/api"
	"regatta/letter"
	"regatta/region"
	"regatta/state"
)

const (
	giveUp    = 64 // ticks behind which an order that is not done is given up
	maxOrders = 16 // that wait at one leader
	// cellBytes is more than what a cell, a lock and a write take beside their keys and values.
	cellBytes = 64
)

// task is an order that a region's leader is doing.
type task struct {
	order  api.Order
	key    []byte
	begun  uint64
	ask    uint64 // of the placement driver; 0: none yet
	number uint64 // the first one that was given for what is new
	posed  bool   // it was proposed
	over   bool
}

// begin: the leader does the order, when it has done those that came ahead of it.
func (h *Host) begin(p *peer, o api.Order, key []byte) {
	steps := tasks()
	if len(p.office.tasks) >= maxOrders || o.Kind < api.OrderAdd || o.Kind >= len(steps) {
		return
	}
	p.office.tasks = append(p.office.tasks, &task{order: o, key: key, begun: h.ticks})
	h.soil(p)
}

// onOrder: the placement driver wants something done, as it knows the region: not behind something else. Where it is to
// be split is left open.
func (h *Host) onOrder(_ int, x letter.Part) {
	p := h.leading(x.Order.Region)
	if p == nil || p.state.Region().Epoch != x.Epoch || len(p.office.tasks) > 0 {
		return
	}
	var key []byte
	if x.Order.Kind == api.OrderSplit {
		key = middle(p.state.Image())
	}
	h.begin(p, x.Order, key)
}

// tasks: what comes next in an order of each kind.
func tasks() [api.OrderMerge + 1]func(*Host, *peer, *task) {
	return [...]func(*Host, *peer, *task){
		api.OrderAdd:     (*Host).addPeer,
		api.OrderPromote: (*Host).promotePeer,
		api.OrderRemove:  (*Host).removePeer,
		api.OrderLeader:  (*Host).handOver,
		api.OrderSplit:   (*Host).splitRegion,
		api.OrderMerge:   (*Host).openMerge,
	}
}

// proceed goes on with the orders, one behind the other, as far as that can be now.
func (h *Host) proceed(p *peer) {
	o := p.office
	for len(o.tasks) > 0 {
		t := o.tasks[0]
		if h.ticks-t.begun < giveUp && !t.over {
			tasks()[t.order.Kind](h, p, t)
		} else {
			t.over = true
		}
		if !t.over {
			return
		}
		o.tasks = o.tasks[1:]
		delete(o.asks, t.ask)
	}
}

// numbered: has it the numbers that it needs? They are asked for once.
func (h *Host) numbered(p *peer, t *task, count int, forSplit api.Region) bool {
	if t.ask == 0 {
		c := api.PdCmd{Kind: api.PdID, N: uint64(count), Region: forSplit}
		t.ask = h.ask(p, letter.Part{Kind: letter.AskDriver, Pd: c}, func(x letter.Part) {
			t.number, t.over = x.PdResult.N, x.PdResult.Err != api.OK
		})
	}
	return t.number != 0
}

// pose proposes a command of the order, once.
func (h *Host) pose(p *peer, t *task, c api.Cmd, then func(api.Result)) {
	t.posed = true
	h.propose(p, state.EncodeCmd(c), func(got outcome) {
		t.over = !got.known || got.result.Err != api.OK
		if !t.over {
			then(got.result)
		}
	})
}

func (h *Host) splitRegion(p *peer, t *task) {
	r := p.state.Region()
	if !region.Covers(r, t.key) || bytes.Equal(t.key, r.Start) {
		t.over = true
		return
	}
	if !h.numbered(p, t, 1+api.MaxPeers, r) || t.posed || !p.open() {
		return
	}
	if t.over = weightOf(behind(p.state.Image(), t.key)) > room; t.over {
		return // a new peer could not begin with so much
	}
	c := api.Cmd{Kind: api.CmdSplit, Epoch: r.Epoch, Keys: [][]byte{t.key}, ID: t.number}
	for i := range r.Peers {
		c.Peers = append(c.Peers, api.Peer{ID: t.number + 1 + uint64(i)})
	}
	h.pose(p, t, c, func(api.Result) { t.over = true })
}

// addPeer: the place of the new one is made known first, then it is a member. Its number is one of so many that one of
// them is unlike all members' modulo election: else two of them might stand at one time for ever.
func (h *Host) addPeer(p *peer, t *task) {
	r := p.state.Region()
	_, there := region.On(r, t.order.Store)
	if there || !h.isStore(t.order.Store) || len(r.Peers) >= api.MaxPeers {
		t.over = true
		return
	}
	if !h.numbered(p, t, api.MaxPeers, api.Region{}) || !p.open() {
		return
	}
	place := api.Peer{ID: unlike(t.number, r.Peers), Store: t.order.Store}
	switch {
	case slices.Contains(p.state.Places(), place):
		h.change(p, t, api.ChangeLearner, place.ID)
	case !t.posed:
		h.pose(p, t, api.Cmd{Kind: api.CmdPeers, Epoch: r.Epoch, Peers: []api.Peer{place}}, func(api.Result) {})
	}
}

// unlike: the first number from this one on that is unlike all peers' modulo election.
func unlike(number uint64, peers []api.Peer) uint64 {
	for slices.ContainsFunc(peers, func(x api.Peer) bool { return x.ID%election == number%election }) {
		number++
	}
	return number
}

// change: the order is done with a change of the members.
func (h *Host) change(p *peer, t *task, kind int, peer uint64) {
	t.over = true
	p.Change([]api.Change{{Kind: kind, Peer: peer}})
	h.soil(p)
}

// named: the peer that the order is about.
func (t *task) named(r api.Region) (api.Peer, bool) {
	x, there := region.On(r, t.order.Store)
	return x, there && (t.order.Peer == 0 || t.order.Peer == x.ID)
}

func (h *Host) promotePeer(p *peer, t *task) {
	x, there := t.named(p.state.Region())
	if !there || !x.Learner {
		t.over = true
	} else if p.open() {
		h.change(p, t, api.ChangeVoter, x.ID)
	}
}

func (h *Host) removePeer(p *peer, t *task) {
	x, there := t.named(p.state.Region())
	if !there {
		t.over = true
	} else if p.open() {
		h.change(p, t, api.ChangeRemove, x.ID)
	}
}

func (h *Host) handOver(p *peer, t *task) {
	t.over = true
	if x, there := t.named(p.state.Region()); there {
		p.Hand(x.ID)
		h.soil(p)
	}
}

// openMerge: the placement driver's log is to say that the merge is under way; who leads it sees to the rest.
func (h *Host) openMerge(p *peer, t *task) {
	r := p.state.Region()
	if t.order.Other == r.ID || t.order.Other < firstRegion {
		t.over = true
		return
	}
	if !h.numbered(p, t, 1, api.Region{}) || t.posed {
		return
	}
	t.posed = true
	c := api.PdCmd{Kind: api.PdMerge, N: t.number, Region: r, Other: api.Region{ID: t.order.Other}}
	t.ask = h.ask(p, letter.Part{Kind: letter.AskDriver, Pd: c}, func(letter.Part) { t.over = true })
}

// promote: where no policy says how many vote, a learner does as soon as it has what the others have.
func (h *Host) promote(p *peer) {
	if h.setup.Policy.Replicas > 0 || len(p.office.tasks) > 0 || !p.open() {
		return
	}
	for _, x := range p.state.Region().Peers {
		if x.Learner && p.Match(x.ID) >= p.applied {
			if _, code := p.Change([]api.Change{{Kind: api.ChangeVoter, Peer: x.ID}}); code == api.OK {
				h.soil(p)
			}
			return
		}
	}
}

// weight: about as much as the cell takes.
func weight(c api.Cell) int {
	n := cellBytes + len(c.Key) + len(c.Lock.Key) + len(c.Lock.Primary) + len(c.Lock.Value)
	for _, key := range c.Lock.Secondaries {
		n += cellBytes + len(key)
	}
	for _, w := range c.Writes {
		n += cellBytes + len(w.Value)
	}
	return n
}

func weightOf(cells []api.Cell) int {
	n := 0
	for _, c := range cells {
		n += weight(c)
	}
	return n
}

// middle: the key behind which about half of it lies; none, if there is nothing to be cut.
func middle(x api.Image) []byte {
	half, n := weightOf(x.Cells)/2, 0
	for i, c := range x.Cells {
		if i > 0 && (n >= half || i == len(x.Cells)-1) {
			return c.Key
		}
		n += weight(c)
	}
	return nil
}

// behind: the cells from the key on.
func behind(x api.Image, key []byte) []api.Cell {
	i, _ := slices.BinarySearchFunc(x.Cells, key, func(c api.Cell, key []byte) int { return bytes.Compare(c.Key, key) })
	return x.Cells[i:]
}
