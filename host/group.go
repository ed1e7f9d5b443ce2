package host

import (
	"regatta/api"
	"regatta/codec"
	"regatta/conf"
	"regatta/letter"
	"regatta/parcel"
)

const (
	frozenEach = 8  // ticks behind which a frozen peer asks again what became of the merge
	lonelyFrom = 24 // ticks behind which a peer that hears nothing asks whether it still counts
	lonelyEach = 8
)

// staged is a snapshot that comes in pieces.
type staged struct {
	message     api.Message
	sum, length uint64
	box         *parcel.Box
}

// onMessage: a peer of a group has told this store's one something.
func (h *Host) onMessage(from int, x letter.Part) {
	m := x.Message
	p := h.meant(from, x)
	if p == nil || m.Kind == api.MsgSnap {
		return
	}
	isAsked := m.Kind == api.MsgAsk || m.Kind == api.MsgVote
	if isAsked && p.outlives(m.From, x.Conf) {
		h.send(from, letter.Part{Kind: letter.Gone, Group: x.Group, Peer: m.From})
		return
	}
	// Entries stand behind a snapshot: who has none yet cannot take any.
	if p.state == nil && p.driver == nil && m.Kind == api.MsgAppend && m.Index == 0 {
		return
	}
	h.step(p, m)
}

// meant: the peer here to whom it goes; nil, if none is, or is to be.
func (h *Host) meant(from int, x letter.Part) *peer {
	m := x.Message
	if h.peers[x.Group] == nil && m.To > h.buried(x.Group) && h.swallowed(x.Group) {
		h.send(from, letter.Part{Kind: letter.Gone, Group: x.Group, Peer: m.From})
		return nil
	}
	p := h.peerOf(x.Group, m.To)
	if p != nil {
		p.others[m.From] = other{from, h.ticks}
		if m.Kind == api.MsgAppend || m.Kind == api.MsgBeat || m.Kind == api.MsgSnap || m.Kind == api.MsgNow {
			p.quiet = 0
		}
	}
	return p
}

// peerOf: the peer of that number; a blank one, if it is to come.
func (h *Host) peerOf(group, id uint64) *peer {
	p := h.peers[group]
	if p != nil && p.id == id {
		return p
	}
	if group < firstRegion || p != nil && p.id > id || id <= h.buried(group) {
		return nil
	}
	blank, code := newPeer(group, id, api.Saved{})
	if code != api.OK {
		return nil
	}
	if p != nil {
		h.leave(p) // a store has one peer of a group: so this one was taken out ahead of the other's coming
	}
	h.peers[group] = blank
	return blank
}

// outlives: is it sure that the asker, who was a member at that Conf, is one no more?
func (p *peer) outlives(asker, newest uint64) bool {
	if newest == 0 || !p.isMember() {
		return false
	}
	r := p.state.Region()
	return r.Epoch.Conf > newest && !has(r, asker)
}

// excludes: does it lead, and is it sure that somebody who is here since that term is no member, and will never be?
// Who was made a member by a leader of a term up to its own is so in its log, or never will be, as entries of its own
// term are committed.
func (p *peer) excludes(peer, term uint64) bool {
	return p.state != nil && p.free() && p.applied >= p.office.first && p.office.term >= term && !has(p.state.Region(), peer)
}

// step hands a message to the peer. One that goes, as its own going is decided, calls on who has just told that it has
// all: so the others need not wait till they miss it.
func (h *Host) step(p *peer, m api.Message) {
	led := p.office != nil
	p.Step(m)
	s := p.Status()
	h.soil(p)
	if !led || m.Kind != api.MsgAppendReply || s.Role == api.RoleLeader || s.Term != p.office.term {
		return
	}
	if !conf.Votes(s.Conf, p.id) && conf.Votes(s.Conf, m.From) && m.Index == s.Last {
		to := p.home(m.From)
		h.pump()
		h.send(to, letter.Part{Kind: letter.Message, Group: p.group, Message: api.Message{Kind: api.MsgNow, From: p.id, To: m.From, Term: s.Term}})
	}
}

// onPiece: a piece of a snapshot has come.
func (h *Host) onPiece(from int, x letter.Part) {
	m := x.Message
	p := h.meant(from, x)
	if p == nil || m.Kind != api.MsgSnap {
		return
	}
	if s := p.Status(); m.Term < s.Term || m.Snap.Index <= s.Commit {
		h.step(p, m) // it takes nothing in
		return
	}
	if m.Snap.Index >= endOfTime {
		return
	}
	if p.staged == nil || isNewer(m, p.staged.message) {
		p.staged = stage(m, x)
	}
	s := p.staged
	if s == nil || isNewer(s.message, m) || s.sum != x.Sum || s.length != x.Length {
		return
	}
	s.box.Put(x.Data)
	if data, whole := s.box.Done(); whole {
		p.staged = nil
		m.Snap.Data = data
		if p.understands(m.Snap) {
			h.step(p, m)
		}
	}
}

// stage: an empty box for the snapshot; nil, if it can be none.
func stage(m api.Message, x letter.Part) *staged {
	if x.Sum != uint64(uint32(x.Sum)) || x.Length > api.MaxRecord {
		return nil
	}
	box, code := parcel.NewBox(uint32(x.Sum), int(x.Length))
	if code != api.OK {
		return nil
	}
	return &staged{m, x.Sum, x.Length, box}
}

// isNewer: does a tell a later snapshot than b?
func isNewer(a, b api.Message) bool {
	return a.Term > b.Term || a.Term == b.Term && a.Snap.Index > b.Snap.Index
}

// understands: could the peer have what the snapshot says?
func (p *peer) understands(s api.Snap) bool {
	probe := peer{group: p.group}
	return conf.Check(s.Conf) == api.OK && probe.take(s)
}

// wonder: a frozen peer wants to know what became of the merge, one that hears nothing whether it still counts.
func (h *Host) wonder(p *peer) {
	if p.gone || p.state == nil {
		return
	}
	if n := p.state.Frozen(); n != 0 && h.ticks%frozenEach == 0 {
		h.toDriver(letter.Part{Kind: letter.AskMerge, N: n})
	}
	if h.ticks%lonelyEach == 0 && h.isLonely(p) {
		h.toAll(letter.Part{Kind: letter.Lonely, Group: p.group, Peer: p.id, Conf: p.newest(), Term: p.Status().Term})
	}
}

// isLonely: has it not heard from a leader for long, or, if it leads, from a quorum? Those that are left behind may
// still have one another.
func (h *Host) isLonely(p *peer) bool {
	if p.office == nil {
		return p.quiet >= lonelyFrom
	}
	peers := []uint64{p.id}
	for id, o := range p.others {
		if h.ticks-o.tick < lonelyFrom {
			peers = append(peers, id)
		}
	}
	return h.ticks-p.office.begun >= lonelyFrom && !conf.Quorum(p.Status().Conf, peers)
}

// onLonely: some store's peer hears nothing from its group.
func (h *Host) onLonely(from int, x letter.Part) {
	p := h.peers[x.Group]
	if h.swallowed(x.Group) || p != nil && (p.outlives(x.Peer, x.Conf) || p.excludes(x.Peer, x.Term)) {
		h.send(from, letter.Part{Kind: letter.Gone, Group: x.Group, Peer: x.Peer})
	}
}

// onGone: the peer counts no more. A blank one is never told so, and is a newcomer.
func (h *Host) onGone(_ int, x letter.Part) {
	p := h.peers[x.Group]
	if p != nil && p.state != nil && p.id == x.Peer {
		h.leave(p)
	}
}

// sumOf: as a number of a letter.
func sumOf(b []byte) uint64 { return uint64(codec.Sum(b)) }
