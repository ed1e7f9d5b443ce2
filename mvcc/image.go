package mvcc

import (
	"bytes"

	"regatta/api"
)

// mark is what no two writes of a cell have in common.
type mark struct {
	start uint64
	kind  int
}

// Image: all that the store has.
func (s *Store) Image() api.Image {
	x := api.Image{Floor: s.floor, GC: s.gc}
	for _, c := range s.cells {
		y := api.Cell{Key: fresh(c.key), Writes: freshWrites(c.writes)}
		if c.lock != nil {
			y.Locked, y.Lock = true, freshLock(*c.lock)
		}
		x.Cells = append(x.Cells, y)
	}
	return x
}

// Load: the store with that image.
func Load(x api.Image) (*Store, api.Errno) {
	if max(x.Floor, x.GC) >= ceiling {
		return nil, api.ErrArg
	}
	s := &Store{floor: x.Floor, gc: x.GC}
	for i, c := range x.Cells {
		if i > 0 && bytes.Compare(x.Cells[i-1].Key, c.Key) >= 0 || !sound(c) {
			return nil, api.ErrArg
		}
		s.cells = append(s.cells, loaded(c))
	}
	return s, api.OK
}

func loaded(c api.Cell) *cell {
	x := &cell{key: fresh(c.Key), writes: freshWrites(c.Writes)}
	if c.Locked {
		l := freshLock(c.Lock)
		x.lock = &l
	}
	return x
}

// sound: can a store have this cell?
func sound(c api.Cell) bool {
	if !isKey(c.Key) || !c.Locked && len(c.Writes) == 0 {
		return false
	}
	return (!c.Locked || bytes.Equal(c.Lock.Key, c.Key) && soundLock(c.Lock)) && soundWrites(c.Writes)
}

func soundLock(l api.Lock) bool {
	if l.Kind < api.KindPut || l.Kind > api.KindPess || !fits(l.Kind, l.Value) || !isKey(l.Primary) {
		return false
	}
	if l.Start == 0 || max(l.Start, l.ForUpdate) >= ceiling || l.MinCommit <= l.Start || l.MinCommit > ceiling {
		return false
	}
	if l.Kind == api.KindPess && l.ForUpdate < l.Start {
		return false
	}
	for _, key := range l.Secondaries {
		if !isKey(key) {
			return false
		}
	}
	return len(l.Secondaries) == 0 || l.Async && bytes.Equal(l.Key, l.Primary)
}

func soundWrites(l []api.Write) bool {
	seen := map[mark]struct{}{}
	for i, w := range l {
		m := mark{w.Start, w.Kind}
		_, twice := seen[m]
		if twice || !soundWrite(w) || i > 0 && orderOf(l[i-1], w) >= 0 {
			return false
		}
		seen[m] = struct{}{}
	}
	return true
}

func soundWrite(w api.Write) bool {
	if w.Start == 0 || w.Start >= ceiling || w.Commit < w.Start || w.Commit > ceiling || !fits(w.Kind, w.Value) {
		return false
	}
	switch w.Kind {
	case api.KindPut, api.KindDelete, api.KindLock:
		return true
	case api.KindRollback:
		return w.Commit == w.Start
	}
	return false
}

// fresh: the same bytes in new memory; nil, if there are none.
func fresh(b []byte) []byte { return append([]byte(nil), b...) }

func freshLock(l api.Lock) api.Lock {
	l.Key, l.Primary, l.Value = fresh(l.Key), fresh(l.Primary), fresh(l.Value)
	var secondaries [][]byte
	for _, key := range l.Secondaries {
		secondaries = append(secondaries, fresh(key))
	}
	l.Secondaries = secondaries
	return l
}

func freshWrites(l []api.Write) []api.Write {
	var writes []api.Write
	for _, w := range l {
		w.Value = fresh(w.Value)
		writes = append(writes, w)
	}
	return writes
}
