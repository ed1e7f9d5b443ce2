package engine

import (
	"slices"

	"regatta/api"
	"regatta/table"
)

// Flush: what is in memory alone is in a table behind it, and the log is given up.
func (e *Engine) Flush() (code api.Errno) {
	defer e.look(&code)
	if e.over {
		return api.ErrDead
	}
	if e.root.begin == e.log.Next() {
		return api.OK
	}
	r := root{begin: e.log.Next(), tables: e.root.tables}
	// What came may have gone again: then there is nothing for a table, but still a log to give up.
	if l := e.memory.alone(); len(l) > 0 {
		r.tables = append([]uint64{r.next()}, r.tables...)
		if code := e.layTable(r.tables[0], l); code != api.OK {
			return code
		}
	}
	if code := e.layRoot(r); code != api.OK {
		return code
	}
	e.memory = memoryOf(e.memory.now)
	return e.log.Cut(r.begin)
}

// Compact: all tables are one, without anything deleted in it, or none.
func (e *Engine) Compact() (code api.Errno) {
	defer e.look(&code)
	if e.over {
		return api.ErrDead
	}
	// In the oldest table nothing is deleted: there was nothing below it. So one alone is as it should be.
	if len(e.root.tables) < 2 {
		return api.OK
	}
	l, code := e.merged()
	if code != api.OK {
		return code
	}
	old, r := e.root, root{begin: e.root.begin}
	if len(l) > 0 {
		r.tables = []uint64{old.next()}
		if code := e.layTable(r.tables[0], l); code != api.OK {
			return code
		}
	}
	if code := e.layRoot(r); code != api.OK {
		return code
	}
	return e.removeAll(old.files())
}

// merged: the pairs that the root's tables tell, without those that are deleted.
func (e *Engine) merged() ([]api.Pair, api.Errno) {
	var tables []*table.Table
	for _, name := range e.root.files() {
		b, code := e.disk.Read(name)
		if code == api.ErrDead {
			return nil, code
		}
		// Of a file that is not there no bytes are read, and these are no table.
		t, code := table.Open(b)
		if code != api.OK {
			return nil, api.ErrEngine
		}
		tables = append(tables, t)
	}
	gone := func(p api.Pair) bool { return p.Gone }
	return slices.DeleteFunc(table.Merge(tables...), gone), api.OK
}

// layTable: the table counts from when a root names it. (Its keys rise: Build has nothing to refuse.)
func (e *Engine) layTable(number uint64, l []api.Pair) api.Errno {
	b, _ := table.Build(l)
	return e.lay(tableFile(number), b)
}

// layRoot: a crash leaves the root of before or this one, whole.
func (e *Engine) layRoot(r root) api.Errno {
	if code := e.lay(newRoot, r.bytes()); code != api.OK {
		return code
	}
	if code := e.disk.Rename(newRoot, rootFile); code != api.OK {
		return code
	}
	e.root = r
	return api.OK
}

// lay makes a new file that stays in a crash.
func (e *Engine) lay(name string, b []byte) api.Errno {
	if code := e.disk.Write(name, b); code != api.OK {
		return code
	}
	return e.disk.Sync(name)
}

func (e *Engine) removeAll(names []string) api.Errno {
	for _, name := range names {
		if code := e.disk.Remove(name); code != api.OK {
			return code
		}
	}
	return api.OK
}
