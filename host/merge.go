package host

import (
	"slices"

	"regatta/api"
	"regatta/letter"
	"regatta/region"
	"regatta/state"
)

const (
	uniteEach = 4        // ticks behind which the target's leader tries again what has not come about
	wishFor   = 16       // ticks for which a leader tries to have its region held, or frozen
	maxSource = room / 2 // what a merge brings in goes in one entry
)

// wish: the region is to be held (or frozen) by a merge, as soon as that can be proposed.
type wish struct {
	merge  uint64
	held   bool
	epoch  api.Epoch  // with which the merge was opened
	source api.Region // of the merge, where the region is to be held
	asker  int        // the store that waits for what lies in it, where it is to be frozen
	until  uint64
	posed  bool
}

// union is what a target's leader knows of the merge by which its region is held.
type union struct {
	merge    uint64
	source   api.Region
	status   int
	cmd      *api.Cmd // the CmdAbsorb: what lies in the source is known
	deciding uint64   // the ask for its commit; 0: none
	next     uint64   // the tick from which on it is tried again
}

// grant proposes what is wished, as soon as it can be.
func (h *Host) grant(p *peer) {
	w := &p.office.wish
	if w.merge == 0 || w.posed {
		return
	}
	if p.state.Frozen() != 0 || p.state.Held() != 0 || p.state.Region().Epoch != w.epoch || h.ticks >= w.until {
		p.office.wish = wish{}
		return
	}
	if !p.free() {
		return
	}
	if !w.held && weightOf(p.state.Image().Cells) > maxSource {
		h.giveBack(w.merge)
		*w = wish{}
		return
	}
	w.posed = true
	c := api.Cmd{Kind: api.CmdPrepare, Epoch: w.epoch, ID: w.merge, Force: w.held}
	h.propose(p, state.EncodeCmd(c), func(got outcome) {
		w.posed = false
		switch {
		case !got.known || got.result.Err != api.OK:
			*w = wish{}
		case !w.held:
			h.tellSource(p, w.asker)
		}
	})
}

// wishFrom: the merge wants the region, whose epoch must be the one with which it was opened.
func (h *Host) wishFrom(p *peer, w wish) {
	s := p.state
	switch {
	case s.Region().Epoch != w.epoch:
		h.giveBack(w.merge)
	case s.Frozen() == 0 && s.Held() == 0 && p.office.wish.merge == 0:
		w.until = h.ticks + wishFor
		p.office.wish = w
		h.soil(p)
	}
}

// giveBack: nothing can come of the merge. If nobody hears of it, it is asked for again by whoever finds it out again.
func (h *Host) giveBack(merge uint64) {
	h.toDriver(letter.Part{Kind: letter.AskDriver, Pd: api.PdCmd{Kind: api.PdDecide, N: merge}})
}

// onMerge: the placement driver has told how a merge stands.
func (h *Host) onMerge(_ int, x letter.Part) {
	if x.N == 0 {
		return
	}
	if p := h.peers[x.Region.ID]; p != nil && p.state != nil && p.state.Frozen() == x.N {
		h.toSource(p, x)
	}
	if p := h.leading(x.Other.ID); p != nil {
		h.toTarget(p, x)
	}
}

// toSource: the source's peer goes when what it has lies in the target; it is free again when nothing came of the merge.
func (h *Host) toSource(p *peer, x letter.Part) {
	switch {
	case x.Swallowed:
		h.leave(p)
	case x.Status == api.MergeBack && p.office != nil:
		h.release(p, x.N)
	}
}

// release: the region is free of the merge again.
func (h *Host) release(p *peer, merge uint64) {
	h.propose(p, state.EncodeCmd(api.Cmd{Kind: api.CmdBack, ID: merge}), func(outcome) {})
}

// toTarget: the target's leader learns of the merge.
func (h *Host) toTarget(p *peer, x letter.Part) {
	switch u := &p.office.union; {
	case u.merge == x.N && p.state.Held() == x.N:
		u.source, u.status = x.Region, max(u.status, x.Status) // what is decided stays so
		h.soil(p)
	case x.Status == api.MergeOpen && p.state.Held() != x.N:
		h.wishFrom(p, wish{merge: x.N, held: true, epoch: x.Other.Epoch, source: x.Region})
	}
}

// unite goes on with the merge by which the region is held, as far as that can be now.
func (h *Host) unite(p *peer) {
	o, merge := p.office, p.state.Held()
	u := &o.union
	if u.merge != merge {
		delete(o.asks, u.deciding)
		*u = union{merge: merge, status: api.MergeOpen}
		if o.wish.merge == merge {
			u.source = o.wish.source
		}
	}
	if merge == 0 {
		return
	}
	if u.cmd != nil && u.status == api.MergeOpen {
		h.decide(p, u)
		return
	}
	if h.ticks < u.next {
		return
	}
	switch {
	case u.status == api.MergeBack:
		u.next = h.ticks + uniteEach
		h.release(p, merge)
	case u.cmd == nil:
		u.next = h.ticks + uniteEach
		h.seekSource(u)
	case p.free():
		u.next = h.ticks + uniteEach
		c := *u.cmd
		c.Epoch = p.state.Region().Epoch
		h.propose(p, state.EncodeCmd(c), func(outcome) {})
	}
}

// seekSource asks the placement driver how the merge stands, and the source's leader for what lies there. (Both are on
// the same stores.)
func (h *Host) seekSource(u *union) {
	h.toDriver(letter.Part{Kind: letter.AskMerge, N: u.merge})
	for _, x := range u.source.Peers {
		h.send(x.Store, letter.Part{Kind: letter.Pull, N: u.merge, Region: u.source})
	}
}

// decide asks for the merge's commit: both sides are as it needs them.
func (h *Host) decide(p *peer, u *union) {
	if u.deciding != 0 {
		return
	}
	merge := u.merge
	c := api.PdCmd{Kind: api.PdDecide, N: merge, Commit: true}
	u.deciding = h.ask(p, letter.Part{Kind: letter.AskDriver, Pd: c}, func(x letter.Part) {
		if v := &p.office.union; v.merge == merge {
			v.status, v.next = max(v.status, x.PdResult.Status), 0
		}
	})
}

// onPull: the target of a merge is held, and its leader wants what lies in the source. That is known when it is frozen.
func (h *Host) onPull(from int, x letter.Part) {
	p := h.leading(x.Region.ID)
	if p == nil || x.N == 0 {
		return
	}
	if p.state.Frozen() == x.N {
		h.tellSource(p, from)
		return
	}
	h.wishFrom(p, wish{merge: x.N, epoch: x.Region.Epoch, asker: from})
}

// tellSource tells what lies in a source that is frozen, and stays as it is as long as it is.
func (h *Host) tellSource(p *peer, to int) {
	c := api.Cmd{Kind: api.CmdAbsorb, ID: p.state.Frozen(), Region: p.state.Region(), Image: p.state.Image()}
	h.send(to, letter.Part{Kind: letter.Source, Cmd: c})
}

// onSource: what lies in the source has come.
func (h *Host) onSource(_ int, x letter.Part) {
	for _, group := range h.groups() {
		p := h.leading(group)
		if p == nil || x.Cmd.ID == 0 || p.state.Held() != x.Cmd.ID || p.office.union.merge != x.Cmd.ID || p.office.union.cmd != nil {
			continue
		}
		if _, code := region.Merge(p.state.Region(), x.Cmd.Region); code == api.OK {
			c := x.Cmd
			p.office.union.cmd = &c
			h.soil(p)
		}
	}
}

// sides: the stores that have peers of one of the regions.
func sides(l ...api.Region) []int {
	var stores []int
	for _, r := range l {
		for _, x := range r.Peers {
			stores = append(stores, x.Store)
		}
	}
	slices.Sort(stores)
	return slices.Compact(stores)
}
