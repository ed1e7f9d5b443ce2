package raft

import "regatta/api"

// untold is what has come since the last Ready, and what that one told.
type untold struct {
	told     api.Hard
	snapNew  bool   // the snapshot is another one
	emptied  bool   // what is kept of the log is to be forgotten
	kept     uint64 // up to here those who keep the log have its entries
	held     uint64 // the last index that they have, of whatever entry
	applied  uint64 // up to here entries were told as committed
	messages []api.Message
}

// Ready: what has come since the call ahead.
func (n *Node) Ready() api.Ready {
	if n.role == api.RoleLeader {
		n.spread()
	}
	r := api.Ready{Hard: n.hard, Emptied: n.emptied, Messages: n.messages, Reads: n.reached}
	r.Entries = n.copies(n.kept, n.last())
	r.Committed = n.copies(n.applied, n.hard.Commit)
	if n.snapNew {
		r.Snap = copySnap(n.snap)
	}
	// Entries that were taken out are forgotten with those that came in their place; if a snapshot covers these already, nothing else says so.
	if len(r.Entries) == 0 && n.held > n.last() {
		r.Emptied = true
	}
	r.New = n.hard != n.told || n.snapNew || len(r.Entries) > 0
	n.untold = untold{told: n.hard, kept: n.last(), held: n.last(), applied: n.hard.Commit}
	n.reached = nil
	return r
}
