package host

import (
	"math"
	"slices"

	"regatta/api"
	"regatta/codec"
	"regatta/disk"
	"regatta/engine"
	"regatta/letter"
	"regatta/pd"
	"regatta/state"
	"regatta/vault"
)

// Open: the host of what is on the disk; the first groups, if there is nothing.
func Open(store int, s api.Setup, d *disk.Disk) (*Host, api.Errno) {
	if !isSetup(s) || store < 1 || store > s.Stores || d == nil {
		return nil, api.ErrArg
	}
	e, code := engine.Open(d)
	if code != api.OK {
		return nil, code
	}
	h := &Host{store: store, setup: s, peers: map[uint64]*peer{}, graves: map[uint64]uint64{}, dirty: map[uint64]struct{}{}}
	h.ledger = ledger{engine: e, writes: len(d.Names())} // each batch that lies in the engine's log has a file
	h.post = post{out: map[int][]letter.Part{}}
	groups, code := vault.Groups(e)
	if code != api.OK {
		return nil, code
	}
	for _, group := range groups {
		if code := h.load(group); code != api.OK {
			return nil, code
		}
	}
	if len(groups) == 0 && store <= founders {
		h.found()
		if code := h.write(); code != api.OK {
			return nil, code
		}
	}
	return h, api.OK
}

func isSetup(s api.Setup) bool {
	return s.Stores >= 1 && s.Stores <= api.MaxStores && s.Clients >= 1 && s.Clients <= api.MaxClients
}

// found: the first groups are here.
func (h *Host) found() {
	h.unit()
	var voters []uint64
	r := api.Region{ID: firstRegion, Epoch: api.Epoch{Conf: 1, Version: 1}}
	for store := 1; store <= min(founders, h.setup.Stores); store++ {
		voters = append(voters, uint64(store))
		r.Peers = append(r.Peers, api.Peer{ID: uint64(founders + store), Store: store})
	}
	d := h.plant(driverGroup, uint64(h.store), api.Conf{Voters: voters}, api.Hard{Term: 1, Commit: 1}, pd.New(100).Export())
	d.driver = pd.New(100)
	s, _ := state.New(r, api.Image{})
	h.seat(s, uint64(founders+h.store), api.Hard{Term: 1, Commit: 1})
}

// seat: the region's state, to which nothing was applied, is what a new peer begins with.
func (h *Host) seat(s *state.State, id uint64, hard api.Hard) *peer {
	s.Skip(1)
	r := s.Region()
	p := h.plant(r.ID, id, confOf(r), hard, s.Export())
	p.state = s
	return p
}

// plant: a new peer is here, with the snapshot of index 1.
func (h *Host) plant(group, id uint64, c api.Conf, hard api.Hard, data []byte) *peer {
	s := api.Saved{Hard: hard, Snap: api.Snap{Index: 1, Term: 1, Conf: c, Data: data}}
	p, _ := newPeer(group, id, s)
	p.applied, p.compacted = 1, 1
	h.add(vault.Save(group, api.Ready{Hard: s.Hard, Snap: s.Snap, Emptied: true})...)
	h.add(name(group, id))
	p.named = true
	h.peers[group] = p
	return p
}

// confOf: who votes in the region, as no change is under way.
func confOf(r api.Region) api.Conf {
	var c api.Conf
	for _, p := range r.Peers {
		if p.Learner {
			c.Learners = append(c.Learners, p.ID)
		} else {
			c.Voters = append(c.Voters, p.ID)
		}
	}
	return c
}

// nameKey is where the number of the group's peer here is kept.
func nameKey(group uint64) []byte { return append(vault.Data(group), 'p') }

func name(group, id uint64) api.Op {
	return api.Op{Kind: api.OpPut, Key: nameKey(group), Value: codec.Varint(id)}
}

// load: the group's peer is what was kept of it.
func (h *Host) load(group uint64) api.Errno {
	saved, _, code := vault.Load(h.engine, group)
	if code != api.OK {
		return code
	}
	b, _, code := h.engine.Get(nameKey(group))
	if code != api.OK {
		return code
	}
	id, rest, code := codec.TakeVarint(b)
	if code != api.OK || len(rest) > 0 {
		return api.ErrVault
	}
	p, code := newPeer(group, id, saved)
	if code != api.OK || !h.recall(p, saved) {
		return api.ErrVault
	}
	h.peers[group] = p
	return api.OK
}

// recall: the peer has what its snapshot says, and all that is known committed behind it is applied. What that brought
// about at other peers was kept with it.
func (h *Host) recall(p *peer, s api.Saved) bool {
	p.named, p.compacted = true, s.Snap.Index
	if s.Snap.Index == 0 {
		return p.group != driverGroup
	}
	if !p.take(s.Snap) {
		return false
	}
	for _, x := range p.Ready().Committed {
		p.do(x)
	}
	return true
}

// buried: up to this number no peer of the group comes any more.
func (h *Host) buried(group uint64) uint64 {
	if _, known := h.graves[group]; !known {
		n, code := vault.Buried(h.engine, group)
		if code != api.OK {
			return math.MaxUint64
		}
		h.graves[group] = n
	}
	return h.graves[group]
}

// swallowed: is the region in another one, as far as is known here?
func (h *Host) swallowed(id uint64) bool {
	for _, p := range h.peers {
		if p.state != nil && slices.Contains(p.state.Swallowed(), id) {
			return true
		}
	}
	d, there := h.Driver()
	return there && d.Swallowed(id)
}
