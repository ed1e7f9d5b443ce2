package host

import (
	"slices"

	"regatta/api"
	"regatta/conf"
	"regatta/pd"
	"regatta/raft"
	"regatta/state"
)

// peer is a store's peer of a group, and what it has. A region's peer without a state is blank: it waits for a snapshot.
type peer struct {
	*raft.Node
	group, id uint64
	state     *state.State // of a region's peer
	driver    *pd.Driver   // of the placement driver's
	applied   uint64
	kept      api.Hard         // as it was kept last
	named     bool             // its number is kept
	compacted uint64           // where it was compacted last, or was to be
	staged    *staged          // a snapshot that comes in pieces
	office    *office          // what it has as long as it leads
	others    map[uint64]other // those of its group from whom it has heard
	quiet     uint64           // ticks since it has heard from a leader
	gone      bool
}

// other is another peer of a group: where it is, and at which tick it was heard of last.
type other struct {
	store int
	tick  uint64
}

func newPeer(group, id uint64, s api.Saved) (*peer, api.Errno) {
	n, code := raft.New(id, s, election, beat)
	if code != api.OK {
		return nil, code
	}
	return &peer{Node: n, group: group, id: id, kept: s.Hard, others: map[uint64]other{}}, api.OK
}

// effect is what came of an entry.
type effect struct {
	cmd    api.Cmd
	result api.Result
	right  *state.State // of a split
	pd     api.PdResult
}

// do does an entry to what the peer has, and to nothing else.
func (p *peer) do(x api.Entry) effect {
	p.applied = x.Index
	if p.driver != nil {
		return p.command(x)
	}
	switch x.Kind {
	case api.EntryConf:
		p.state.Conf(x.Index, x.Conf)
	case api.EntryData:
		if c, code := state.DecodeCmd(x.Data); code == api.OK {
			r, right, _ := p.state.Apply(x.Index, c)
			return effect{cmd: c, result: r, right: right}
		}
	}
	p.state.Skip(x.Index) // if it is not applied by now, it does nothing
	return effect{}
}

// command does an entry to the placement driver's state.
func (p *peer) command(x api.Entry) effect {
	if x.Kind != api.EntryData {
		return effect{}
	}
	c, code := pd.DecodeCmd(x.Data)
	if code != api.OK {
		return effect{}
	}
	return effect{pd: p.driver.Do(c)}
}

// take: what the snapshot says is what the peer has; false, if it says nothing that this peer could have.
func (p *peer) take(s api.Snap) bool {
	if p.group == driverGroup {
		d, code := pd.Import(s.Data)
		if code != api.OK {
			return false
		}
		p.driver, p.applied = d, s.Index
		return true
	}
	x, ok := stateOf(p.group, s)
	if !ok {
		return false
	}
	p.state, p.applied = x, s.Index
	return true
}

// stateOf: the region's state that the snapshot says.
func stateOf(region uint64, s api.Snap) (*state.State, bool) {
	x, code := state.Import(s.Data)
	if code != api.OK || x.Region().ID != region || x.Applied() != s.Index {
		return nil, false
	}
	return x, true
}

// export: bytes that say all that the peer has.
func (p *peer) export() []byte {
	if p.driver != nil {
		return p.driver.Export()
	}
	return p.state.Export()
}

func (p *peer) view(store int) api.PeerView {
	s := p.Status()
	return api.PeerView{Store: store, Peer: p.id, Region: p.state.Region(), Role: s.Role, Term: s.Term,
		Applied: p.applied, Commit: s.Commit, Frozen: p.state.Frozen() != 0, Swallowed: p.state.Swallowed()}
}

// free: does it lead, has it applied all that is in its log, and is its configuration decided? Only then may it
// propose what changes the region, or its members.
func (p *peer) free() bool {
	s := p.Status()
	return p.office != nil && p.applied == s.Last && !conf.Joint(s.Conf)
}

// open: may it propose what no merge must meet?
func (p *peer) open() bool {
	return p.free() && p.state.Frozen() == 0 && p.state.Held() == 0
}

// isMember: is it one, as far as it has applied?
func (p *peer) isMember() bool { return p.state != nil && has(p.state.Region(), p.id) }

func has(r api.Region, peer uint64) bool {
	return slices.ContainsFunc(r.Peers, func(x api.Peer) bool { return x.ID == peer })
}

// newest is the Conf of members that had this peer among them: of the region as it is here, or, for a newcomer that has
// not come to its own configuration yet, of the part of the log that is not applied. 0: it has not heard of itself.
func (p *peer) newest() uint64 {
	if p.state == nil {
		return 0
	}
	n := p.state.Region().Epoch.Conf
	if p.isMember() {
		return n
	}
	own := uint64(0)
	for _, x := range p.Entries(p.applied+1, p.Status().Last+1) {
		if x.Kind == api.EntryConf {
			n++
			if conf.Has(x.Conf, p.id) {
				own = n
			}
		}
	}
	return own
}

// home: the store of a peer of the group; 0, if it is not known.
func (p *peer) home(id uint64) int {
	if p.group == driverGroup {
		return int(min(id, founders))
	}
	if o, known := p.others[id]; known || p.state == nil {
		return o.store
	}
	for _, l := range [][]api.Peer{p.state.Region().Peers, p.state.Places(), p.coming()} {
		for _, x := range l {
			if x.ID == id {
				return x.Store
			}
		}
	}
	return 0
}

// coming: the places that the part of the log names which is not applied yet.
func (p *peer) coming() []api.Peer {
	var l []api.Peer
	for _, x := range p.Entries(p.applied+1, p.Status().Last+1) {
		if c, code := state.DecodeCmd(x.Data); x.Kind == api.EntryData && code == api.OK && c.Kind == api.CmdPeers {
			l = append(l, c.Peers...)
		}
	}
	return l
}

// leaderStore: the store of who leads, as far as is known; 0, if nobody is.
func (p *peer) leaderStore() int {
	leader := p.Status().Leader
	if leader == 0 {
		return 0
	}
	return p.home(leader)
}
