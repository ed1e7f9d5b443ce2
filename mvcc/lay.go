package mvcc

import (
	"bytes"

	"regatta/api"
)

// prewrite lays the locks of a transaction; with One, its writes.
func (s *Store) prewrite(c api.Cmd) api.Result {
	if refusedPrewrite(c) {
		return api.Result{Err: api.ErrArg}
	}
	at := leastTime(c)
	greatest, again := uint64(0), false
	l, r := s.look(keysOf(c.Muts), func(i int, x *cell) api.Result {
		m := c.Muts[i]
		if !x.owned(c.Start) {
			if r := s.mayLock(x, c.Start, c.Start, m.Held); r.Err != api.OK {
				return r
			}
		} else if x.lock.Kind != api.KindPess {
			greatest, again = max(greatest, x.lock.MinCommit), true
			return api.Result{}
		}
		greatest = max(greatest, at)
		x.lay(c, m, at)
		return api.Result{}
	})
	if r.Err != api.OK {
		return r
	}
	if c.One && again {
		return api.Result{Err: api.ErrArg}
	}
	s.put(l...)
	return api.Result{Commit: greatest}
}

// leastTime: the least time at which the transaction may be committed, as far as the command knows.
func leastTime(c api.Cmd) uint64 {
	at := max(c.Start+1, c.ForUpdate+1, c.Commit)
	if c.Async || c.One {
		at = max(at, c.Max+1)
	}
	return at
}

// mayLock: may a transaction that has no lock there lay one? A commit above since is a conflict.
func (s *Store) mayLock(x *cell, start, since uint64, held bool) api.Result {
	if x.lock != nil {
		return x.blocked()
	}
	switch status, at := x.state(start); {
	case status == api.TxnCommitted:
		return api.Result{Err: api.ErrCommitted, Commit: at}
	case status == api.TxnRolled:
		return api.Result{Err: api.ErrRolled}
	case start <= s.floor:
		return api.Result{Err: api.ErrTooOld}
	case held:
		return api.Result{Err: api.ErrNoLock}
	}
	if last := x.lastAbove(since); last != 0 {
		return api.Result{Err: api.ErrConflict, Commit: last}
	}
	return api.Result{}
}

// lay lays the change, as a lock or, with One, as a write, in the place of the lock that was taken ahead.
func (c *cell) lay(cmd api.Cmd, m api.Mut, at uint64) {
	c.lock = nil
	if cmd.One {
		c.decide(api.Write{Kind: m.Kind, Commit: at, Start: cmd.Start, Value: fresh(m.Value)})
		return
	}
	l := api.Lock{Kind: m.Kind, Key: m.Key, Primary: cmd.Primary, Value: m.Value, Start: cmd.Start, ForUpdate: cmd.ForUpdate, MinCommit: at, Async: cmd.Async}
	if bytes.Equal(m.Key, cmd.Primary) {
		l.Secondaries = cmd.Secondaries
	}
	l = freshLock(l)
	c.lock = &l
}

// pess lays locks ahead of the values.
func (s *Store) pess(c api.Cmd) api.Result {
	if c.ForUpdate < c.Start || !isKey(c.Primary) {
		return api.Result{Err: api.ErrArg}
	}
	return s.change(c.Keys, func(_ int, x *cell) api.Result {
		if !x.owned(c.Start) {
			if r := s.mayLock(x, c.Start, c.ForUpdate, false); r.Err != api.OK {
				return r
			}
			x.lock = &api.Lock{Kind: api.KindPess, Key: x.key, Primary: fresh(c.Primary), Start: c.Start, ForUpdate: c.ForUpdate, MinCommit: c.ForUpdate + 1}
		} else if x.lock.Kind == api.KindPess {
			l := *x.lock
			l.ForUpdate = max(l.ForUpdate, c.ForUpdate)
			x.lock = &l
		}
		return api.Result{}
	})
}

// pessRollback: locks that were taken ahead go, and leave no mark.
func (s *Store) pessRollback(c api.Cmd) api.Result {
	return s.change(c.Keys, func(_ int, x *cell) api.Result {
		if x.owned(c.Start) && x.lock.Kind == api.KindPess && x.lock.ForUpdate <= c.ForUpdate {
			x.lock = nil
		}
		return api.Result{}
	})
}
