package mvcc

import (
	"bytes"
	"cmp"
	"slices"
	"sort"

	"regatta/api"
)

// cell is a key with all that is there.
type cell struct {
	key    []byte
	lock   *api.Lock   // nil: there is none
	writes []api.Write // falling by Commit; of one Commit rising by Start
}

// find: where the cell with that key is, or would be.
func (s *Store) find(key []byte) (int, bool) {
	return slices.BinarySearchFunc(s.cells, key, (*cell).against)
}

func (c *cell) against(key []byte) int { return bytes.Compare(c.key, key) }

func (c *cell) order(o *cell) int { return bytes.Compare(c.key, o.key) }

func (c *cell) same(o *cell) bool { return bytes.Equal(c.key, o.key) }

// copyAt: a cell to be changed, as it is at that key; a bare one, if there is none.
func (s *Store) copyAt(key []byte) *cell {
	i, there := s.find(key)
	if !there {
		return &cell{key: fresh(key)}
	}
	c := *s.cells[i]
	return &c
}

// put lays cells in their places; where one is bare, none is there any more.
func (s *Store) put(l ...*cell) {
	for _, c := range l {
		i, there := s.find(c.key)
		switch {
		case there && c.bare():
			s.cells = slices.Delete(s.cells, i, i+1)
		case there:
			s.cells[i] = c
		case !c.bare():
			s.cells = append(append(s.cells[:i:i], c), s.cells[i:]...)
		}
	}
}

func (c *cell) bare() bool { return c.lock == nil && len(c.writes) == 0 }

func (c *cell) owned(start uint64) bool { return c.lock != nil && c.lock.Start == start }

// state: how the transaction stands at the key; of one that is committed the time, too.
func (c *cell) state(start uint64) (int, uint64) {
	if c.owned(start) {
		return api.TxnLocked, 0
	}
	status := api.TxnNone
	for _, w := range c.writes {
		if w.Commit < start {
			break // no write is ahead of its Start: none of these is the transaction's
		}
		if w.Start == start && w.Kind != api.KindRollback {
			return api.TxnCommitted, w.Commit
		}
		if w.Start == start {
			status = api.TxnRolled
		}
	}
	return status, 0
}

// lastAbove: the greatest Commit above that time at which something was committed; 0, if there is none.
func (c *cell) lastAbove(ts uint64) uint64 {
	for _, w := range c.writes {
		if w.Commit <= ts {
			break
		}
		if w.Kind != api.KindRollback {
			return w.Commit
		}
	}
	return 0
}

// version: which of the writes tells the value at that time; len(c.writes), if none does.
func (c *cell) version(ts uint64) int {
	i := c.upTo(ts)
	for i < len(c.writes) && c.writes[i].Kind != api.KindPut && c.writes[i].Kind != api.KindDelete {
		i++
	}
	return i
}

// upTo: the first of the writes whose Commit is at most that time.
func (c *cell) upTo(ts uint64) int {
	return sort.Search(len(c.writes), func(i int) bool { return c.writes[i].Commit <= ts })
}

// decide lays a write in its place. An image may have the transaction's lock beside a write of it
// that is of the same kind, or at the same time: that one makes room, as no cell has two of these.
func (c *cell) decide(w api.Write) {
	l := slices.DeleteFunc(slices.Clone(c.writes), func(o api.Write) bool {
		return o.Start == w.Start && (o.Kind == w.Kind || o.Commit == w.Commit)
	})
	i, _ := slices.BinarySearchFunc(l, w, orderOf)
	c.writes = slices.Insert(l, i, w)
}

func orderOf(a, b api.Write) int {
	return cmp.Or(cmp.Compare(b.Commit, a.Commit), cmp.Compare(a.Start, b.Start))
}

// roll: the transaction's lock goes, and never anything of it comes here.
func (c *cell) roll(start uint64) {
	if c.owned(start) {
		c.lock = nil
	}
	c.decide(api.Write{Kind: api.KindRollback, Commit: start, Start: start})
}

// settle: the lock becomes a write at that time, if that is not too early.
func (c *cell) settle(at uint64) api.Result {
	l := c.lock
	if at < l.MinCommit {
		return api.Result{Err: api.ErrEarly, Commit: l.MinCommit}
	}
	c.lock = nil
	c.decide(api.Write{Kind: l.Kind, Commit: at, Start: l.Start, Value: l.Value})
	return api.Result{}
}

// blocked: what is answered where the cell's lock is in the way.
func (c *cell) blocked() api.Result {
	return api.Result{Err: api.ErrLocked, Key: fresh(c.key), Lock: freshLock(*c.lock)}
}
