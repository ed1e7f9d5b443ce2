package raft

import (
	"regatta/api"
	"regatta/conf"
)

// hear: there is a leader of this term.
func (n *Node) hear(leader uint64) {
	n.follow(n.hard.Term, leader)
	n.heard, n.idle = 0, 0
}

// learn: the log is the leader's up to same, which knows its own committed up to commit.
func (n *Node) learn(same, commit uint64) {
	n.sure = max(n.sure, same)
	n.hard.Commit = max(n.hard.Commit, min(commit, n.sure))
}

func (n *Node) onAppend(m api.Message) {
	if n.role == api.RoleLeader || !goOn(m.Index, m.LogTerm, m.Term, m.Entries) {
		return
	}
	r := api.Message{Kind: api.MsgAppendReply, To: m.From, Term: n.hard.Term}
	if !n.agrees(m.Index, m.LogTerm) {
		n.hear(m.From)
		r.Refused, r.Index, r.Context = true, m.Index, n.last()
		n.send(r)
		return
	}
	same, ok := n.sameAs(m.Entries)
	if !ok {
		return
	}
	n.hear(m.From)
	n.put(m.Entries[same:])
	r.Index = m.Index + uint64(len(m.Entries))
	n.learn(r.Index, m.Commit)
	n.send(r)
}

// agrees: has it an entry of that term there? What a snapshot covers is committed, so it is what the leader has.
func (n *Node) agrees(index, term uint64) bool {
	has, there := n.termAt(index)
	return index < n.snap.Index || there && has == term
}

// sameAs: how many of the entries it has; false, if one that is known committed is another one here.
func (n *Node) sameAs(entries []api.Entry) (int, bool) {
	for i, x := range entries {
		if !n.agrees(x.Index, x.Term) {
			return i, x.Index > n.hard.Commit
		}
	}
	return len(entries), true
}

// put lays entries into the log, in the place of all that is there from the first one's index on.
func (n *Node) put(entries []api.Entry) {
	if len(entries) == 0 {
		return
	}
	ahead := entries[0].Index - 1
	n.cut(ahead)
	n.sure, n.kept = min(n.sure, ahead), min(n.kept, ahead)
	n.add(entries)
}

func (n *Node) onBeat(m api.Message) {
	if n.role == api.RoleLeader {
		return
	}
	n.hear(m.From)
	n.learn(n.sure, m.Commit)
	n.send(api.Message{Kind: api.MsgBeatReply, To: m.From, Term: n.hard.Term, Context: m.Context})
}

func (n *Node) onSnap(m api.Message) {
	news := m.Snap.Index > n.hard.Commit
	if n.role == api.RoleLeader || news && (conf.Check(m.Snap.Conf) != api.OK || m.Snap.Term > m.Term) {
		return
	}
	n.hear(m.From)
	if news {
		n.install(copySnap(m.Snap))
	}
	n.send(api.Message{Kind: api.MsgAppendReply, To: m.From, Term: n.hard.Term, Index: m.Snap.Index})
}

// install: the snapshot reaches beyond what is known committed here.
func (n *Node) install(s api.Snap) {
	if n.agrees(s.Index, s.Term) {
		n.keepBehind(s)
	} else {
		n.replace(s)
	}
	n.sure = min(n.sure, n.last())
	n.learn(s.Index, s.Index)
	n.snapNew, n.emptied, n.kept = true, true, s.Index // what stays is told again
}
