package raft

import (
	"bytes"
	"math"
	"slices"

	"regatta/api"
	"regatta/conf"
)

// log is a snapshot and the entries behind it. It shares no memory with anybody.
type log struct {
	snap    api.Snap
	entries []api.Entry
	confs   []uint64 // the indexes of the EntryConf among the entries, rising
}

// logOf: s fits together.
func logOf(s api.Saved) log {
	var l log
	if s.Snap.Index != 0 {
		l.snap = copySnap(s.Snap)
	}
	l.add(s.Entries)
	return l
}

// goOn: do the entries follow on index and term, up to terms of most, with configurations that are some?
func goOn(index, term, most uint64, entries []api.Entry) bool {
	if uint64(len(entries)) > math.MaxUint64-index {
		return false
	}
	for i, x := range entries {
		if x.Index != index+uint64(i)+1 || x.Term < term || x.Term > most {
			return false
		}
		if x.Kind == api.EntryConf && conf.Check(x.Conf) != api.OK {
			return false
		}
		term = x.Term
	}
	return true
}

func (l *log) last() uint64 { return l.snap.Index + uint64(len(l.entries)) }

func (l *log) lastTerm() uint64 {
	term, _ := l.termAt(l.last())
	return term
}

// termAt: the term of the entry at the index, the snapshot's last one too; is it there?
func (l *log) termAt(index uint64) (uint64, bool) {
	switch {
	case index < l.snap.Index || index > l.last():
		return 0, false
	case index == l.snap.Index:
		return l.snap.Term, true
	}
	return l.at(index).Term, true
}

// at: the entry of an index behind the snapshot's.
func (l *log) at(index uint64) *api.Entry { return &l.entries[index-l.snap.Index-1] }

// conf: the configuration, and where it stands.
func (l *log) conf() (api.Conf, uint64) { return l.confUpTo(math.MaxUint64) }

// confUpTo: what the configuration is, if the log ends at an index that is no less than the snapshot's.
func (l *log) confUpTo(index uint64) (api.Conf, uint64) {
	for _, at := range slices.Backward(l.confs) {
		if at <= index {
			return l.at(at).Conf, at
		}
	}
	return l.snap.Conf, l.snap.Index
}

// add puts copies of entries that follow on the last one behind it.
func (l *log) add(entries []api.Entry) {
	for _, x := range entries {
		l.entries = append(l.entries, copyEntry(x))
		if x.Kind == api.EntryConf {
			l.confs = append(l.confs, x.Index)
		}
	}
}

// cut takes out what stands behind an index that is no less than the snapshot's.
func (l *log) cut(index uint64) {
	if index >= l.last() {
		return
	}
	kept := index - l.snap.Index
	clear(l.entries[kept:])
	l.entries = l.entries[:kept]
	for len(l.confs) > 0 && l.confs[len(l.confs)-1] > index {
		l.confs = l.confs[:len(l.confs)-1]
	}
}

// keepBehind: the snapshot, whose index is in the log, takes the place of the entries up to it.
func (l *log) keepBehind(s api.Snap) {
	l.entries = slices.Clone(l.entries[s.Index-l.snap.Index:])
	l.confs = slices.DeleteFunc(l.confs, func(at uint64) bool { return at <= s.Index })
	l.snap = s
}

// replace: the snapshot takes the place of all.
func (l *log) replace(s api.Snap) { *l = log{snap: s} }

// copies: of the entries behind above, up to upTo.
func (l *log) copies(above, upTo uint64) []api.Entry {
	above, upTo = max(above, l.snap.Index), min(upTo, l.last())
	if above >= upTo {
		return nil
	}
	out := make([]api.Entry, 0, upTo-above)
	for _, x := range l.entries[above-l.snap.Index : upTo-l.snap.Index] {
		out = append(out, copyEntry(x))
	}
	return out
}

// copyEntry: with what counts of its kind, and nothing else.
func copyEntry(x api.Entry) api.Entry {
	c := api.Entry{Kind: x.Kind, Term: x.Term, Index: x.Index}
	switch x.Kind {
	case api.EntryConf:
		c.Conf = copyConf(x.Conf)
	case api.EntryNone:
	default:
		c.Data = bytes.Clone(x.Data)
	}
	return c
}

func copyConf(c api.Conf) api.Conf {
	return api.Conf{Voters: slices.Clone(c.Voters), Old: slices.Clone(c.Old), Learners: slices.Clone(c.Learners)}
}

func copySnap(s api.Snap) api.Snap {
	return api.Snap{Index: s.Index, Term: s.Term, Conf: copyConf(s.Conf), Data: bytes.Clone(s.Data)}
}
