package mvcc

import (
	"regatta/api"
)

// commit turns the transaction's locks into writes.
func (s *Store) commit(c api.Cmd) api.Result {
	if c.Commit <= c.Start {
		return api.Result{Err: api.ErrArg}
	}
	return s.change(c.Keys, func(_ int, x *cell) api.Result {
		switch status, _ := x.state(c.Start); {
		case status == api.TxnLocked && x.lock.Kind != api.KindPess:
			return x.settle(c.Commit)
		case status == api.TxnCommitted:
			return api.Result{}
		case status == api.TxnRolled:
			return api.Result{Err: api.ErrRolled}
		}
		return api.Result{Err: api.ErrNoLock}
	})
}

// rollback: nothing of the transaction comes at these keys any more.
func (s *Store) rollback(c api.Cmd) api.Result {
	return s.change(c.Keys, func(_ int, x *cell) api.Result {
		if status, at := x.state(c.Start); status == api.TxnCommitted {
			return api.Result{Err: api.ErrCommitted, Commit: at}
		}
		x.roll(c.Start)
		return api.Result{}
	})
}

// check: how the transaction stands at its primary; with Force it is rolled there, where it may be.
func (s *Store) check(c api.Cmd) api.Result {
	x := s.copyAt(c.Primary)
	status, at := x.state(c.Start)
	switch {
	case status == api.TxnCommitted || status == api.TxnRolled:
		return api.Result{Status: status, Commit: at}
	case status == api.TxnLocked && (!c.Force || x.lock.Async && x.lock.Kind != api.KindPess):
		return api.Result{Status: api.TxnLocked, Lock: freshLock(*x.lock)}
	case status == api.TxnNone && c.Start <= s.gc:
		return api.Result{Err: api.ErrTooOld, Key: fresh(c.Primary)}
	case !c.Force:
		return api.Result{Status: api.TxnNone}
	}
	return s.rolled(x, c.Start)
}

// secondaries: how the transaction stands at these keys; where it has laid nothing yet, it is rolled.
func (s *Store) secondaries(c api.Cmd) api.Result {
	greatest := uint64(0)
	for _, key := range c.Keys {
		x := s.copyAt(key)
		status, at := x.state(c.Start)
		switch {
		case status == api.TxnLocked && x.lock.Kind != api.KindPess:
			greatest = max(greatest, x.lock.MinCommit)
			continue
		case status == api.TxnCommitted || status == api.TxnRolled:
			return api.Result{Status: status, Commit: at}
		case status == api.TxnNone && c.Start <= s.gc:
			return api.Result{Err: api.ErrTooOld, Key: fresh(key)}
		}
		return s.rolled(x, c.Start)
	}
	return api.Result{Status: api.TxnLocked, Commit: greatest}
}

// rolled rolls the transaction at that cell, and says so.
func (s *Store) rolled(x *cell, start uint64) api.Result {
	x.roll(start)
	s.put(x)
	return api.Result{Status: api.TxnRolled}
}

// resolve: the transaction's locks become what was decided.
func (s *Store) resolve(c api.Cmd) api.Result {
	if c.Commit != 0 && c.Commit <= c.Start {
		return api.Result{Err: api.ErrArg}
	}
	keys := c.Keys
	if len(keys) == 0 {
		keys = s.lockedBy(c.Start)
	}
	return s.change(keys, func(_ int, x *cell) api.Result {
		switch {
		case !x.owned(c.Start):
			return api.Result{}
		case c.Commit == 0:
			x.roll(c.Start)
		case x.lock.Kind == api.KindPess:
			x.lock = nil
		default:
			return x.settle(c.Commit)
		}
		return api.Result{}
	})
}

// lockedBy: the keys at which the transaction has a lock.
func (s *Store) lockedBy(start uint64) [][]byte {
	var keys [][]byte
	for _, c := range s.cells {
		if c.owned(start) {
			keys = append(keys, c.key)
		}
	}
	return keys
}
