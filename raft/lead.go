package raft

import (
	"slices"

	"regatta/api"
	"regatta/conf"
)

// office is what a peer has as long as it leads.
type office struct {
	members  map[uint64]*member // all others of the configuration
	ticks    int                // since it has sent MsgBeat
	beats    uint64             // how often it has sent MsgBeat: the Context of the last ones
	wantBeat bool               // a read waits for one that is not sent yet
	reads    []read             // by rising beats
	reached  []api.ReadAt       // reads that Ready is to tell
	heir     uint64             // to whom it is handing over; 0: to nobody
	waited   int                // ticks of handing over
	called   bool               // the heir was sent MsgNow
}

// read waits till a quorum has answered the beat.
type read struct {
	api.ReadAt
	beat uint64
}

// member is what a leader knows of another member, and has sent to it.
type member struct {
	match    uint64 // up to here it has said to have the log
	next     uint64 // what is sent begins here
	sent     uint64 // what was sent ended here, since next was found wrong
	told     uint64 // how far it was told the log to be known committed
	beat     uint64 // the last beat that it has answered
	due      bool   // it is to be sent something anew
	snapshot bool   // it was sent a snapshot, and nothing since
}

// lead: it is the leader of its term.
func (n *Node) lead() {
	n.role, n.leader = api.RoleLeader, n.id
	n.heard, n.idle, n.ballot = 0, 0, ballot{}
	n.office = office{members: map[uint64]*member{}}
	n.enroll()
	n.write(api.Entry{Kind: api.EntryNone})
	n.settle()
}

// write puts an entry of its own behind the log: its index.
func (n *Node) write(x api.Entry) uint64 {
	x.Term, x.Index = n.hard.Term, n.last()+1
	n.add([]api.Entry{x})
	if x.Kind == api.EntryConf {
		n.enroll()
	}
	return x.Index
}

// enroll: the members are those of the configuration; of a new one nothing is known yet.
func (n *Node) enroll() {
	now := map[uint64]*member{}
	for _, peer := range n.group().others(n.id) {
		now[peer] = n.members[peer]
		if now[peer] == nil {
			now[peer] = &member{next: n.last() + 1, sent: n.last(), due: true}
		}
	}
	n.members = now
}

// settle: what follows from what the members have, and from what the log says.
func (n *Node) settle() {
	for n.commitMore() || n.leave() {
	}
	if c, at := n.conf(); at <= n.hard.Commit && !conf.Votes(c, n.id) {
		n.spread() // the others need not find out anew what is committed
		n.follow(n.hard.Term, 0)
		return
	}
	n.confirm(n.group().quorum)
	n.call()
}

// commitMore: is more of the log known committed now? Only by an entry of its own term: what is elder, even if a quorum has it, another leader may still take out.
func (n *Node) commitMore() bool {
	c, _ := n.conf()
	peers, at := []uint64{n.id}, []uint64{n.last()}
	for peer, m := range n.members {
		peers, at = append(peers, peer), append(at, m.match)
	}
	index := conf.Index(c, peers, at)
	if term, _ := n.termAt(index); index <= n.hard.Commit || term != n.hard.Term {
		return false
	}
	n.hard.Commit = index
	return true
}

// leave: has it appended the configuration behind a joint one? Not while it is handing over: then that is the next leader's.
func (n *Node) leave() bool {
	c, at := n.conf()
	if n.heir != 0 || at > n.hard.Commit || !conf.Joint(c) {
		return false
	}
	behind, e := conf.Leave(c)
	if e != api.OK {
		return false
	}
	n.write(api.Entry{Kind: api.EntryConf, Conf: behind})
	return true
}

// Propose: an entry with the data stands behind the log; its index.
func (n *Node) Propose(data []byte) (uint64, api.Errno) {
	if e := n.free(); e != api.OK {
		return 0, e
	}
	index := n.write(api.Entry{Kind: api.EntryData, Data: data})
	n.settle()
	return index, api.OK
}

// Change: an entry with the changed configuration stands behind the log; its index.
func (n *Node) Change(l []api.Change) (uint64, api.Errno) {
	if e := n.free(); e != api.OK {
		return 0, e
	}
	c, at := n.conf()
	if conf.Joint(c) || at > n.hard.Commit {
		return 0, api.ErrBusy
	}
	next, e := conf.Enter(c, l)
	if e != api.OK {
		return 0, e
	}
	index := n.write(api.Entry{Kind: api.EntryConf, Conf: next})
	n.settle()
	return index, api.OK
}

// free: may it propose?
func (n *Node) free() api.Errno {
	switch {
	case n.role != api.RoleLeader:
		return api.ErrLeader
	case n.heir != 0:
		return api.ErrBusy
	}
	return api.OK
}

// Read: when it is sure that it led behind this call, Ready tells what is to be applied ahead of reading.
func (n *Node) Read(context uint64) api.Errno {
	if n.role != api.RoleLeader {
		return api.ErrLeader
	}
	n.reads = append(n.reads, read{api.ReadAt{Context: context, Index: n.last()}, n.beats + 1})
	n.confirm(n.group().quorum)
	n.wantBeat = len(n.reads) > 0
	return api.OK
}

// confirm: which reads wait no more?
func (n *Node) confirm(quorum func([]uint64) bool) {
	for len(n.reads) > 0 && quorum(n.answeredBeat(n.reads[0].beat)) {
		n.reached = append(n.reached, n.reads[0].ReadAt)
		n.reads = n.reads[1:]
	}
}

// answeredBeat: who has answered this beat or a later one, itself counted.
func (n *Node) answeredBeat(beat uint64) []uint64 {
	peers := []uint64{n.id}
	for peer, m := range n.members {
		if m.beat >= beat {
			peers = append(peers, peer)
		}
	}
	return peers
}

// Hand: the peer is to lead.
func (n *Node) Hand(to uint64) api.Errno {
	c, _ := n.conf()
	switch {
	case n.role != api.RoleLeader:
		return api.ErrLeader
	case to == n.id || !slices.Contains(c.Voters, to):
		return api.ErrArg
	case n.heir != 0:
		return api.ErrBusy
	}
	n.heir, n.waited, n.called = to, 0, false
	n.call()
	return api.OK
}

// call: an heir that has all is to stand at once.
func (n *Node) call() {
	if n.heir == 0 || n.called || n.members[n.heir].match < n.last() {
		return
	}
	n.called = true
	n.send(api.Message{Kind: api.MsgNow, To: n.heir, Term: n.hard.Term})
}

// tickLeader: an heir may be late; the members hear of their leader.
func (n *Node) tickLeader() {
	if n.heir != 0 {
		if n.waited++; n.waited >= n.election {
			n.heir = 0
			n.settle()
		}
	}
	if n.role != api.RoleLeader {
		return
	}
	if n.ticks++; n.ticks >= n.beat {
		n.ticks = 0
		n.sendBeats()
		for _, m := range n.members {
			m.due = m.due || m.match < n.last()
		}
	}
}
