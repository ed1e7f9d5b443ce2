package engine

import (
	"bytes"
	"maps"
	"slices"

	"regatta/api"
)

// memory is all that is there, beside what of it the tables tell.
type memory struct {
	now   view
	kept  view                // what the tables tell
	loose map[string]struct{} // keys that memory alone tells of: those that were put, and those of kept that were deleted
}

func memoryOf(kept view) memory {
	return memory{now: kept, kept: kept, loose: map[string]struct{}{}}
}

// doings: what an Op of each kind does.
func doings() []func(*memory, api.Op) {
	return []func(*memory, api.Op){
		api.OpPut:    (*memory).put,
		api.OpDelete: (*memory).remove,
		api.OpWipe:   (*memory).wipe,
	}
}

func (m *memory) do(batch []api.Op) {
	does := doings()
	for _, o := range batch {
		does[o.Kind](m, o)
	}
}

func (m *memory) put(o api.Op) {
	m.now = m.now.with(api.Pair{Key: bytes.Clone(o.Key), Value: bytes.Clone(o.Value)})
	m.loose[string(o.Key)] = struct{}{}
}

func (m *memory) remove(o api.Op) { m.clear(o.Key, behind(o.Key)) }

func (m *memory) wipe(o api.Op) { m.clear(o.Key, o.End) }

// clear deletes the keys of a range. Of one that no table has nothing needs to be said any more.
func (m *memory) clear(from, to []byte) {
	for p := range m.now.pairs(from, to) {
		if m.kept.find(p.Key) != nil {
			m.loose[string(p.Key)] = struct{}{}
		} else {
			delete(m.loose, string(p.Key))
		}
	}
	m.now = m.now.without(from, to)
}

// alone: the pairs that memory alone tells of, rising; those that are deleted are Gone.
func (m *memory) alone() []api.Pair {
	var out []api.Pair
	for _, key := range slices.Sorted(maps.Keys(m.loose)) {
		value, there := m.now.get([]byte(key))
		out = append(out, api.Pair{Key: []byte(key), Value: value, Gone: !there})
	}
	return out
}
