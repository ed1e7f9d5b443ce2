package host

import (
	"regatta/api"
	"regatta/conf"
	"regatta/letter"
	"regatta/parcel"
	"regatta/region"
	"regatta/state"
	"regatta/vault"
)

const (
	pieceSize = 1 << 14
	fewBehind = 64                    // more entries that all members have are given up
	farBehind = 256                   // more of them are given up, whoever lacks them
	room      = api.MaxRecord * 3 / 4 // bytes of a snapshot that fit in a batch
)

// settle: what the peer tells is kept, sent, applied and answered, and what follows from that is begun.
func (h *Host) settle(p *peer) {
	r := p.Ready()
	h.keepLog(p, r)
	for _, m := range r.Messages {
		h.mail(p, m)
	}
	h.note(p)
	h.unit()
	if r.Snap.Index > p.applied {
		h.install(p, r.Snap)
	}
	for _, x := range r.Committed {
		if !p.gone {
			h.apply(p, x, r.Hard)
		}
	}
	if p.gone {
		return
	}
	h.keepHard(p, r.Hard)
	if p.office != nil {
		p.office.told(r.Reads, p.applied)
		h.advance(p)
	}
	h.compact(p)
}

// keepLog keeps what is new of the peer's log. That more of it is known committed is kept behind that, with what comes
// of applying it.
func (h *Host) keepLog(p *peer, r api.Ready) {
	if r.Snap.Index == 0 && len(r.Entries) == 0 {
		return
	}
	r.Hard.Commit = max(p.kept.Commit, r.Snap.Index)
	p.kept = r.Hard
	for _, part := range cut(r) {
		h.unit()
		h.add(vault.Save(p.group, part)...)
		h.keepName(p)
	}
}

// keepHard keeps the peer's promises, if they are others than those that are kept.
func (h *Host) keepHard(p *peer, hard api.Hard) {
	if p.kept != hard {
		p.kept = hard
		h.add(vault.Save(p.group, api.Ready{Hard: hard})...)
		h.keepName(p)
	}
}

// keepName: what is kept of a peer stands beside its number.
func (h *Host) keepName(p *peer) {
	if !p.named {
		p.named = true
		h.add(name(p.group, p.id))
	}
}

// cut: where it is too many bytes for one batch, it is kept one part behind the other, as if it had come so. The entries
// that a snapshot leaves are told anew, and are kept already: so it stands ahead of them, and only where it leaves none
// all are forgotten.
func cut(r api.Ready) []api.Ready {
	var out []api.Ready
	if r.Snap.Index != 0 {
		out = append(out, api.Ready{Hard: r.Hard, Snap: r.Snap, Emptied: r.Emptied && len(r.Entries) == 0})
	}
	begin, size := 0, 0
	for i, x := range r.Entries {
		if size += len(x.Data); size > maxBytes && i > begin {
			out = append(out, api.Ready{Hard: r.Hard, Entries: r.Entries[begin:i]})
			begin, size = i, len(x.Data)
		}
	}
	if len(r.Entries) > 0 {
		out = append(out, api.Ready{Hard: r.Hard, Entries: r.Entries[begin:]})
	}
	return out
}

// mail: a message goes to a peer of the group. Of a snapshot it goes with each piece.
func (h *Host) mail(p *peer, m api.Message) {
	to := p.home(m.To)
	if to == 0 {
		return
	}
	if m.Kind != api.MsgSnap {
		x := letter.Part{Kind: letter.Message, Group: p.group, Message: m}
		if m.Kind == api.MsgAsk || m.Kind == api.MsgVote {
			x.Conf = p.newest()
		}
		h.send(to, x)
		return
	}
	data := m.Snap.Data
	m.Snap.Data = nil
	pieces, _ := parcel.Pack(data, pieceSize)
	for _, piece := range pieces {
		h.send(to, letter.Part{Kind: letter.Piece, Group: p.group, Message: m, Sum: sumOf(data), Length: uint64(len(data)), Data: piece})
	}
}

// note: does the peer lead now, or no more? And is the term of who sends it a snapshot over?
func (h *Host) note(p *peer) {
	s := p.Status()
	if p.office != nil && (s.Role != api.RoleLeader || s.Term != p.office.term) {
		h.resign(p)
	}
	if p.office == nil && s.Role == api.RoleLeader {
		p.office = newOffice(s.Term, s.Last, h.ticks)
	}
	if p.staged != nil && p.staged.message.Term < s.Term {
		p.staged = nil
	}
}

// install: a snapshot has come in the place of what the peer has.
func (h *Host) install(p *peer, s api.Snap) {
	was := p.isMember()
	if !p.take(s) {
		return
	}
	p.compacted = s.Index
	h.review(p, was)
}

// review: a region's peer that was a member and is none any more goes; and so does whoever is swallowed by its region.
func (h *Host) review(p *peer, was bool) {
	if p.state == nil {
		return
	}
	if was && !p.isMember() {
		h.leave(p)
		return
	}
	for _, id := range p.state.Swallowed() {
		if q := h.peers[id]; q != nil && q.group >= firstRegion {
			h.leave(q)
		}
	}
}

// leave: the peer goes, and never comes again.
func (h *Host) leave(p *peer) {
	h.add(vault.Drop(p.group)...)
	h.add(vault.Bury(p.group, p.id)...)
	h.graves[p.group] = max(h.buried(p.group), p.id)
	h.resign(p)
	p.gone = true
	delete(h.peers, p.group)
	delete(h.dirty, p.group)
}

// apply does a committed entry, and what follows from it on this store; who waited for it is answered. What follows
// is kept with the news that this entry is committed: hard is what is known when all of them are applied.
func (h *Host) apply(p *peer, x api.Entry, hard api.Hard) {
	was := p.isMember()
	got := p.do(x)
	absorbed := got.cmd.Kind == api.CmdAbsorb && got.result.Err == api.OK
	if got.right != nil || absorbed || x.Kind == api.EntryConf {
		h.unit()
		hard.Commit = x.Index
		h.keepHard(p, hard)
	}
	if got.right != nil {
		h.splitOff(p, got.right)
	}
	if p.office != nil {
		p.office.reach(x.Index, x.Term, outcome{known: true, result: got.result, pd: got.pd})
	}
	if absorbed && p.office != nil {
		p.office.unmark()
	}
	if absorbed || x.Kind == api.EntryConf {
		h.review(p, was)
	}
}

// splitOff: the new region's peer is here, but if it came already by a snapshot, or is to come no more.
func (h *Host) splitOff(p *peer, right *state.State) {
	r := right.Region()
	mine, there := region.On(r, h.store)
	if !there || r.ID < firstRegion {
		return
	}
	hard := api.Hard{Term: 1, Commit: 1}
	if q := h.peers[r.ID]; q != nil {
		if q.state != nil || q.id != mine.ID {
			return
		}
		// What a blank one has promised holds.
		s := q.Status()
		hard.Term, hard.Vote = max(s.Term, 1), s.Vote
	} else if mine.ID <= h.buried(r.ID) || h.swallowed(r.ID) {
		return
	}
	q := h.seat(right, mine.ID, hard)
	if p.office != nil {
		hurry(q)
	}
	h.soil(q)
}

// hurry: the peer stands for election at once. Of all peers of a new region only the one beside its old leader does,
// so that nobody is in its way.
func hurry(p *peer) {
	for range 2 * election {
		if p.Status().Role != api.RoleFollower {
			return
		}
		p.Tick()
	}
}

// compact: when the log is long, a snapshot of what was applied takes its place.
func (h *Host) compact(p *peer) {
	if p.state == nil && p.driver == nil || p.applied < p.compacted+fewBehind+1 {
		return
	}
	if p.applied <= p.compacted+farBehind && !p.office.hasAll(p) {
		return
	}
	p.compacted = p.applied // whether it is done or not: it costs too much to be tried at each entry
	// What does not fit in a batch with what else is kept stays in the log.
	if data := p.export(); len(data) <= room && p.Compact(p.applied, data) == api.OK {
		h.soil(p)
	}
}

// hasAll: does it lead, and have all members what is applied?
func (o *office) hasAll(p *peer) bool {
	if o == nil {
		return false
	}
	for _, id := range conf.Members(p.Status().Conf) {
		if id != p.id && p.Match(id) < p.applied {
			return false
		}
	}
	return true
}
