package raft

import (
	"fmt"
	"slices"
	"strconv"
	"strings"
	"testing"

	"regatta/api"
)

func want(t *testing.T, what string, got, e api.Errno) {
	t.Helper()
	if got != e {
		t.Errorf("%s: error %d; want %d", what, got, e)
	}
}

func wantText(t *testing.T, what, got, is string) {
	t.Helper()
	if got != is {
		t.Errorf("%s:\n%s; want\n%s", what, got, is)
	}
}

// list is the numbers of a text.
func list(s string) []uint64 {
	var l []uint64
	for _, w := range strings.Fields(s) {
		n, err := strconv.ParseUint(w, 10, 64)
		if err != nil {
			panic(err)
		}
		l = append(l, n)
	}
	return l
}

// of is the configuration of a text: Voters | Old | Learners.
func of(s string) api.Conf {
	p := append(strings.Split(s, "|"), "", "")
	return api.Conf{Voters: list(p[0]), Old: list(p[1]), Learners: list(p[2])}
}

func textConf(c api.Conf) string {
	var p []string
	for _, l := range [][]uint64{c.Voters, c.Old, c.Learners} {
		p = append(p, strings.Trim(fmt.Sprint(l), "[]"))
	}
	return strings.TrimRight(strings.Join(p, " | "), " |")
}

// changes are those of a text: +4 a voter, ~4 a learner, -4 to be removed.
func changes(s string) []api.Change {
	var l []api.Change
	for _, w := range strings.Fields(s) {
		l = append(l, api.Change{Kind: 1 + strings.Index("+~-", w[:1]), Peer: list(w[1:])[0]})
	}
	return l
}

// entry is the one of a text: term, then nothing, =data or (configuration).
func entry(index uint64, s string) api.Entry {
	term, data, isData := strings.Cut(s, "=")
	if isData {
		return api.Entry{Kind: api.EntryData, Term: list(term)[0], Index: index, Data: []byte(data)}
	}
	term, c, isConf := strings.Cut(strings.ReplaceAll(strings.TrimSuffix(s, ")"), ",", " "), "(")
	if isConf {
		return api.Entry{Kind: api.EntryConf, Term: list(term)[0], Index: index, Conf: of(c)}
	}
	return api.Entry{Kind: api.EntryNone, Term: list(term)[0], Index: index}
}

// entries are those of a text behind an index: "2 2=x 2(1,2|1)".
func entries(behind uint64, s string) []api.Entry {
	var l []api.Entry
	for i, w := range strings.Fields(s) {
		l = append(l, entry(behind+uint64(i)+1, w))
	}
	return l
}

func text(x api.Entry) string {
	s := fmt.Sprint(x.Index, ":", x.Term)
	switch x.Kind {
	case api.EntryData:
		s += "=" + string(x.Data)
	case api.EntryConf:
		s += "(" + textConf(x.Conf) + ")"
	}
	if x.Kind != api.EntryData && len(x.Data) > 0 || x.Kind != api.EntryConf && textConf(x.Conf) != "" || x.Kind < 1 || x.Kind > 3 {
		s += fmt.Sprintf(" %+v", x)
	}
	return s
}

func textEntries(l []api.Entry) string {
	var out []string
	for _, x := range l {
		out = append(out, text(x))
	}
	return strings.Join(out, " ")
}

func textSnap(s api.Snap) string {
	if s.Index == 0 && s.Term == 0 && textConf(s.Conf) == "" && len(s.Data) == 0 {
		return ""
	}
	return fmt.Sprintf("<%d:%d (%s) %s>", s.Index, s.Term, textConf(s.Conf), s.Data)
}

// line is a message as a text, with all of it that is not zero.
func line(m api.Message) string {
	names := []string{"", "ask", "ask-reply", "vote", "vote-reply", "append", "append-reply", "beat", "beat-reply", "snap", "now"}
	s := fmt.Sprintf("%s %d>%d t%d", names[m.Kind], m.From, m.To, m.Term)
	if m.Refused {
		s += " no"
	}
	if m.Index != 0 || m.LogTerm != 0 {
		s += fmt.Sprintf(" at %d:%d", m.Index, m.LogTerm)
	}
	if m.Commit != 0 {
		s += fmt.Sprintf(" c%d", m.Commit)
	}
	if m.Context != 0 {
		s += fmt.Sprintf(" x%d", m.Context)
	}
	return strings.TrimRight(s+" "+textEntries(m.Entries)+textSnap(m.Snap), " ")
}

func lines(l []api.Message) string {
	var out []string
	for _, m := range l {
		out = append(out, line(m))
	}
	return strings.Join(out, "; ")
}

// ofKind: those of some kinds.
func ofKind(l []api.Message, kinds ...int) []api.Message {
	var out []api.Message
	for _, m := range l {
		if slices.Contains(kinds, m.Kind) {
			out = append(out, m)
		}
	}
	return out
}

func textHard(h api.Hard) string { return fmt.Sprint(h.Term, " ", h.Vote, " ", h.Commit) }

// short is how a peer stands: role, term, vote, leader, commit, first to last.
func short(n *Node) string {
	s := n.Status()
	names := []string{"", "follower", "asker", "candidate", "leader"}
	return fmt.Sprintf("%s t%d v%d l%d c%d %d-%d", names[s.Role], s.Term, s.Vote, s.Leader, s.Commit, s.First, s.Last)
}

func logText(n *Node) string { return textEntries(n.Entries(0, 1<<62)) }

// has is what a peer with the snapshot of index 1, term 1 has kept.
func has(voters string, h api.Hard, log string) api.Saved {
	return api.Saved{Hard: h, Snap: api.Snap{Index: 1, Term: 1, Conf: of(voters)}, Entries: entries(1, log)}
}

func hard(term, vote, commit uint64) api.Hard {
	return api.Hard{Term: term, Vote: vote, Commit: commit}
}

// begin is what three peers begin with.
func begin() api.Saved { return has("1 2 3", hard(1, 0, 1), "") }

func open(t *testing.T, id uint64, s api.Saved) *Node {
	t.Helper()
	n, e := New(id, s, 10, 2)
	if n == nil || e != api.OK {
		t.Fatalf("New(%d, %+v): error %d", id, s, e)
	}
	return n
}

// step hands the messages in, in their order; what the peer has to say to that.
func step(t *testing.T, n *Node, l ...api.Message) api.Ready {
	t.Helper()
	for _, m := range l {
		if e := n.Step(m); e != api.OK {
			t.Fatalf("Step(%s): error %d", line(m), e)
		}
	}
	return n.Ready()
}

func ticks(n *Node, k int) api.Ready {
	for range k {
		n.Tick()
	}
	return n.Ready()
}

// lead makes the peer the leader of the next term, by the voices of all others.
func lead(t *testing.T, n *Node) {
	t.Helper()
	term := n.Status().Term + 1
	for k := 0; n.Status().Role == api.RoleFollower; k++ {
		if n.Tick(); k > 50 {
			t.Fatalf("it does not stand: %s", short(n))
		}
	}
	for _, kind := range []int{api.MsgAskReply, api.MsgVoteReply} {
		for peer := uint64(1); peer <= 9 && n.Status().Role != api.RoleLeader; peer++ {
			if peer != n.Status().ID {
				n.Step(api.Message{Kind: kind, From: peer, To: n.Status().ID, Term: term})
			}
		}
	}
	if s := n.Status(); s.Role != api.RoleLeader || s.Term != term {
		t.Fatalf("it does not lead: %s", short(n))
	}
	n.Ready()
}

// leading is peer 1 of what is saved, which leads.
func leading(t *testing.T, s api.Saved) *Node {
	t.Helper()
	n := open(t, 1, s)
	lead(t, n)
	return n
}

// got is the reply of a member that it has the leader's log up to index.
func got(n *Node, from, index uint64) api.Message {
	return api.Message{Kind: api.MsgAppendReply, From: from, To: n.Status().ID, Term: n.Status().Term, Index: index}
}
