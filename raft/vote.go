package raft

import (
	"slices"

	"regatta/api"
	"regatta/conf"
)

// ballot is what was answered to who stands: each peer counts once, and what it granted stays granted.
type ballot struct {
	yes, no []uint64
}

func (b *ballot) take(peer uint64, granted bool) {
	switch {
	case slices.Contains(b.yes, peer):
	case granted:
		b.yes = append(b.yes, peer)
		b.no = slices.DeleteFunc(b.no, func(p uint64) bool { return p == peer })
	case !slices.Contains(b.no, peer):
		b.no = append(b.no, peer)
	}
}

// won, over: by what a group says of those who granted, and of those who refused.
func (b *ballot) won(quorum func([]uint64) bool) bool { return quorum(b.yes) }

func (b *ballot) over(lost func([]uint64) bool) bool { return lost(b.no) }

// patience: peers of one term whose numbers are unlike modulo election do not stand at one time.
func (n *Node) patience() int {
	e := uint64(n.election)
	return n.election + int((n.id%e+n.hard.Term%e)%e) // each for itself: the sum of the two might not fit in 64 bits
}

// mayStand: one that goes counts as long as it is not decided that it goes.
func (n *Node) mayStand() bool {
	if n.hard.Term >= far || n.last() >= far {
		return false
	}
	now, _ := n.conf()
	decided, _ := n.confUpTo(n.hard.Commit)
	return conf.Votes(now, n.id) || conf.Votes(decided, n.id)
}

// ask: would the others vote for it in the next term?
func (n *Node) ask() {
	n.role, n.leader, n.idle = api.RoleAsker, 0, 0
	n.canvass(api.MsgAsk, n.hard.Term+1)
}

// stand: it is a candidate of the next term.
func (n *Node) stand() {
	n.follow(n.hard.Term+1, 0)
	n.role, n.hard.Vote, n.idle = api.RoleCandidate, n.id, 0
	n.canvass(api.MsgVote, n.hard.Term)
}

// canvass begins a ballot of all voters.
func (n *Node) canvass(kind int, term uint64) {
	n.ballot = ballot{yes: []uint64{n.id}}
	g := n.group()
	for _, peer := range g.others(n.id) {
		if conf.Votes(api.Conf(g), peer) {
			n.send(api.Message{Kind: kind, To: peer, Term: term, Index: n.last(), LogTerm: n.lastTerm()})
		}
	}
	n.count()
}

// count: what comes of the ballot as it stands?
func (n *Node) count() {
	g := n.group()
	switch {
	case n.ballot.won(g.quorum) && n.role == api.RoleAsker:
		n.stand()
	case n.ballot.won(g.quorum):
		n.lead()
	case n.ballot.over(g.lost):
		n.follow(n.hard.Term, 0)
	}
}

// answered: a voter has said what it would do, or did.
func (n *Node) answered(m api.Message) {
	if conf.Votes(api.Conf(n.group()), m.From) {
		n.ballot.take(m.From, !m.Refused)
		n.count()
	}
}

// asGood: is the log that the message tells as good as this one?
func (n *Node) asGood(m api.Message) bool {
	return m.LogTerm > n.lastTerm() || m.LogTerm == n.lastTerm() && m.Index >= n.last()
}

func (n *Node) onAsk(m api.Message) {
	r := api.Message{Kind: api.MsgAskReply, To: m.From, Term: m.Term}
	if m.Term <= n.hard.Term || !n.asGood(m) || n.leader != 0 && n.heard < n.election {
		r.Term, r.Refused = n.hard.Term, true
	}
	n.send(r)
}

func (n *Node) onAskReply(m api.Message) {
	// A refusal names the term in which it was said, a grant the next one.
	if n.role == api.RoleAsker && (m.Refused || m.Term-n.hard.Term == 1) {
		n.answered(m)
	}
}

func (n *Node) onVote(m api.Message) {
	r := api.Message{Kind: api.MsgVoteReply, To: m.From, Term: n.hard.Term}
	if n.hard.Vote != 0 && n.hard.Vote != m.From || !n.asGood(m) {
		r.Refused = true
	} else {
		n.hard.Vote, n.idle = m.From, 0
	}
	n.send(r)
}

func (n *Node) onVoteReply(m api.Message) {
	if n.role == api.RoleCandidate {
		n.answered(m)
	}
}

// onNow: the leader wants to be followed by this peer.
func (n *Node) onNow(m api.Message) {
	if n.leader != 0 && n.leader != m.From {
		return
	}
	n.hear(m.From)
	if n.mayStand() {
		n.stand()
	}
}
