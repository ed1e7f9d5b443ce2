package raft

import "regatta/api"

// spread sends each member what it lacks, as far as that is not under way.
func (n *Node) spread() {
	for _, peer := range n.group().others(n.id) {
		if m := n.members[peer]; n.lacks(m) {
			n.sendLog(peer, m)
		}
	}
	if n.wantBeat {
		n.sendBeats()
	}
}

// lacks: is there anything to send to it? What is lost under way is sent again with a later beat.
func (n *Node) lacks(m *member) bool {
	if m.due || m.next <= n.snap.Index {
		return m.due || !m.snapshot
	}
	return m.told < n.hard.Commit || m.sent < n.reach(m)
}

// reach: where what it may be sent now ends.
func (n *Node) reach(m *member) uint64 { return min(n.last(), m.next-1+api.MaxEntries) }

func (n *Node) sendLog(peer uint64, m *member) {
	m.due = false
	m.snapshot = m.next <= n.snap.Index
	if m.snapshot {
		n.send(api.Message{Kind: api.MsgSnap, To: peer, Term: n.hard.Term, Snap: copySnap(n.snap)})
		return
	}
	ahead := m.next - 1
	term, _ := n.termAt(ahead)
	m.sent, m.told = max(m.sent, n.reach(m)), n.hard.Commit
	n.send(api.Message{Kind: api.MsgAppend, To: peer, Term: n.hard.Term, Index: ahead, LogTerm: term, Commit: n.hard.Commit, Entries: n.copies(ahead, n.reach(m))})
}

// sendBeats: to all members.
func (n *Node) sendBeats() {
	n.wantBeat = false
	n.beats++
	for _, peer := range n.group().others(n.id) {
		n.members[peer].told = n.hard.Commit
		n.send(api.Message{Kind: api.MsgBeat, To: peer, Term: n.hard.Term, Commit: n.hard.Commit, Context: n.beats})
	}
}

func (n *Node) onAppendReply(m api.Message) {
	from := n.members[m.From]
	if from == nil || m.Index > n.last() {
		return
	}
	if m.Refused {
		from.back(m.Index, m.Context)
		return
	}
	from.has(m.Index)
	n.settle()
}

func (n *Node) onBeatReply(m api.Message) {
	from := n.members[m.From]
	if from == nil || m.Refused || m.Context > n.beats {
		return
	}
	from.beat = max(from.beat, m.Context)
	n.confirm(n.group().quorum)
}

// Match: up to here the member has said to have the log; 0, if this peer does not lead, or that is none of its members.
func (n *Node) Match(peer uint64) uint64 {
	m := n.members[peer]
	if m == nil {
		return 0
	}
	return m.match
}

// has: it has the log up to index.
func (m *member) has(index uint64) {
	m.match, m.sent = max(m.match, index), max(m.sent, index)
	m.next = max(m.next, index+1)
}

// back: it has no such entry at index, its log ends at last. What was refused ahead of something that came later says nothing any more.
func (m *member) back(index, last uint64) {
	if index <= m.match || index != m.next-1 {
		return
	}
	m.sent = min(index-1, last)
	m.next = m.sent + 1
}
