package mvcc

import (
	"bytes"
	"iter"

	"regatta/api"
)

// Get: the key's value at that time.
func (s *Store) Get(key []byte, ts uint64) ([]byte, bool, api.Result) {
	if ts < s.gc {
		return nil, false, api.Result{Err: api.ErrTooOld}
	}
	i, there := s.find(key)
	if !there {
		return nil, false, api.Result{}
	}
	return s.cells[i].get(ts)
}

// get: the value at that time, as Get tells it.
func (c *cell) get(ts uint64) ([]byte, bool, api.Result) {
	if c.hides(ts) {
		return nil, false, c.blocked()
	}
	i := c.version(ts)
	if i == len(c.writes) || c.writes[i].Kind == api.KindDelete {
		return nil, false, api.Result{}
	}
	return fresh(c.writes[i].Value), true, api.Result{}
}

// hides: may the lock become a write that a read at that time must tell?
func (c *cell) hides(ts uint64) bool {
	return c.lock != nil && c.lock.Kind <= api.KindDelete && max(c.lock.Start, c.lock.MinCommit) <= ts
}

// Scan: the pairs of a range at that time.
func (s *Store) Scan(from, to []byte, limit int, ts uint64) ([]api.Pair, api.Result) {
	if ts < s.gc {
		return nil, api.Result{Err: api.ErrTooOld}
	}
	if limit < 1 {
		return nil, api.Result{}
	}
	var l []api.Pair
	for c := range s.between(from, to) {
		value, found, r := c.get(ts)
		if r.Err != api.OK {
			return nil, r
		}
		if found {
			l = append(l, api.Pair{Key: fresh(c.key), Value: value})
		}
		if len(l) == min(limit, api.MaxScan) {
			break
		}
	}
	return l, api.Result{}
}

// Locks: the locks of a range, of transactions up to that time.
func (s *Store) Locks(from, to []byte, limit int, ts uint64) []api.Lock {
	var l []api.Lock
	for c := range s.between(from, to) {
		if len(l) >= limit {
			break
		}
		if c.lock != nil && c.lock.Start <= ts {
			l = append(l, freshLock(*c.lock))
		}
	}
	return l
}

// between walks over the cells from a key on that are below to (all from it on, if to is empty).
func (s *Store) between(from, to []byte) iter.Seq[*cell] {
	return func(yield func(*cell) bool) {
		i, _ := s.find(from)
		for _, c := range s.cells[i:] {
			if len(to) > 0 && bytes.Compare(c.key, to) >= 0 || !yield(c) {
				return
			}
		}
	}
}

// Size: how much there is, in cells, writes and bytes.
func (s *Store) Size() int {
	n := len(s.cells)
	for _, c := range s.cells {
		n += len(c.key) + len(c.writes)
		for _, w := range c.writes {
			n += len(w.Value)
		}
	}
	return n
}
