package state

import (
	"regatta/api"
	"regatta/region"
)

// Get: the key's value at that time.
func (s *State) Get(key []byte, ts uint64, e api.Epoch) ([]byte, bool, api.Result) {
	r := s.closed(e)
	if r.Err == api.OK && !region.Covers(s.region, key) {
		r = elsewhere(key)
	}
	if r.Err != api.OK {
		return nil, false, r
	}
	return s.store.Get(key, ts)
}

// Scan: the pairs of a range at that time.
func (s *State) Scan(from, to []byte, limit int, ts uint64, e api.Epoch) ([]api.Pair, api.Result) {
	if r := s.closed(e); r.Err != api.OK {
		return nil, r
	}
	return s.store.Scan(from, to, limit, ts)
}

// Locks: the locks of a range, of transactions up to that time.
func (s *State) Locks(from, to []byte, limit int, ts uint64, e api.Epoch) ([]api.Lock, api.Result) {
	if r := s.closed(e); r.Err != api.OK {
		return nil, r
	}
	return s.store.Locks(from, to, limit, ts), api.Result{}
}

// closed: why nothing is read here by who believes in that epoch; OK, if it is.
func (s *State) closed(e api.Epoch) api.Result {
	switch {
	case s.frozen != 0:
		return api.Result{Err: api.ErrFrozen}
	case e.Version != s.region.Epoch.Version:
		return s.moved()
	}
	return api.Result{}
}
