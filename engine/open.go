package engine

import (
	"slices"

	"regatta/api"
	"regatta/codec"
	"regatta/disk"
	"regatta/wal"
)

// segment is the size from which on the log begins a new one: each record has
// one of its own. So a Flush leaves at most one of them; a torn end is cut off
// without needing room; and only in the last record may something be torn.
const segment = 1

// Open: the engine of what is on the disk.
func Open(d *disk.Disk) (*Engine, api.Errno) {
	if d == nil {
		return nil, api.ErrArg
	}
	e := &Engine{disk: d}
	for _, step := range []func() api.Errno{e.dropNewRoot, e.findRoot, e.readTables, e.openLog, e.replay, e.tidy} {
		if code := step(); code != api.OK {
			return nil, code
		}
	}
	return e, api.OK
}

// dropNewRoot removes a root that a crash kept from its place: the next one would be written behind it.
func (e *Engine) dropNewRoot() api.Errno {
	if code := e.disk.Remove(newRoot); code != api.ErrFile {
		return code
	}
	return api.OK
}

// findRoot reads the root, or lays one on a new disk. It comes there ahead of
// all else: where it is missing, no log and no table can be right.
func (e *Engine) findRoot() api.Errno {
	b, code := e.disk.Read(rootFile)
	if code == api.OK {
		r, ok := takeRoot(b)
		if !ok {
			return api.ErrEngine
		}
		e.root = r
		return api.OK
	}
	if len(e.numbered(logName))+len(e.numbered(tableName)) > 0 {
		return api.ErrEngine
	}
	return e.layRoot(root{begin: 1})
}

func (e *Engine) readTables() api.Errno {
	l, code := e.merged()
	e.memory = memoryOf(viewOf(l))
	return code
}

// openLog: the log must have all records that the tables don't tell.
func (e *Engine) openLog() api.Errno {
	if e.spoilt() {
		return api.ErrEngine
	}
	l, code := wal.Open(e.disk, logName, segment)
	if code == api.ErrBroken {
		return api.ErrEngine
	}
	if code != api.OK {
		return code
	}
	if e.root.begin < l.First() || e.root.begin > l.Next() {
		return api.ErrEngine
	}
	e.log = l
	return api.OK
}

// spoilt: a crash leaves all of the last record's frame, or a beginning of it.
// The log would cut off anything else too, and with it a batch that was
// answered OK.
func (e *Engine) spoilt() bool {
	files := e.numbered(logName)
	if len(files) == 0 {
		return false
	}
	b, _ := e.disk.Read(files[len(files)-1])
	_, rest, code := codec.TakeFrame(b)
	return code == api.ErrSum || code == api.ErrForm || len(rest) > 0
}

// replay does the batches that the tables don't tell.
func (e *Engine) replay() api.Errno {
	for i := e.root.begin; i < e.log.Next(); i++ {
		record, _ := e.log.Get(i)
		batch, ok := takeBatch(record)
		if !ok {
			return api.ErrEngine
		}
		e.memory.do(batch)
	}
	return api.OK
}

// tidy removes what a Flush or a Compact that was broken off left behind.
func (e *Engine) tidy() api.Errno {
	counts := map[string]struct{}{}
	for _, file := range e.root.files() {
		counts[file] = struct{}{}
	}
	left := slices.DeleteFunc(e.numbered(tableName), func(file string) bool {
		_, ok := counts[file]
		return ok
	})
	if code := e.removeAll(left); code != api.OK {
		return code
	}
	return e.log.Cut(e.root.begin)
}

// numbered: the files of segments or of tables, by rising numbers.
func (e *Engine) numbered(name string) []string {
	return slices.DeleteFunc(e.disk.Names(), func(file string) bool { return !isNumbered(file, name) })
}
