package mvcc

import (
	"slices"

	"regatta/api"
)

// raise: no transaction up to that time begins here any more.
func (s *Store) raise(c api.Cmd) api.Result {
	s.floor = max(s.floor, c.Commit)
	return api.Result{}
}

// collect: what only reads below that time could ask for goes.
func (s *Store) collect(c api.Cmd) api.Result {
	if c.Commit > s.floor {
		return api.Result{Err: api.ErrArg}
	}
	for _, x := range s.cells {
		if x.lock != nil && x.lock.Start <= c.Commit {
			return x.blocked()
		}
	}
	s.gc = max(s.gc, c.Commit)
	var l []*cell
	for _, x := range s.cells {
		if x = x.without(c.Commit); !x.bare() {
			l = append(l, x)
		}
	}
	s.cells = l
	return api.Result{}
}

// without: the cell without the writes up to that time that no read from it on asks for.
func (c *cell) without(ts uint64) *cell {
	from, kept := c.upTo(ts), c.version(ts)
	l := slices.Clone(c.writes[:from])
	if kept < len(c.writes) {
		l = append(l, c.writes[kept])
	}
	return &cell{key: c.key, lock: c.lock, writes: l}
}
