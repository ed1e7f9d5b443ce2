package mvcc

import (
	"slices"
)

// Cut: the cells from the key on go to a store of their own. Each side gets a list of its own, so that it does not hold on to the other's cells.
func (s *Store) Cut(key []byte) *Store {
	i, _ := s.find(key)
	right := &Store{floor: s.floor, gc: s.gc, cells: slices.Clone(s.cells[i:])}
	s.cells = slices.Clone(s.cells[:i])
	return right
}

// Join: o's cells are this store's, too.
func (s *Store) Join(o *Store) {
	if o == nil {
		return
	}
	s.floor, s.gc = max(s.floor, o.floor), max(s.gc, o.gc)
	l := slices.Concat(s.cells, o.cells)
	slices.SortStableFunc(l, (*cell).order)
	s.cells = slices.CompactFunc(l, (*cell).same) // of a key that both have the first one stays
}
