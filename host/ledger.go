package host

import (
	"regatta/api"
	"regatta/engine"
)

// What the engine takes in one batch, whatever is in it; and how much is written till the engine is tidied.
const (
	maxBytes   = api.MaxRecord / 2
	maxOps     = 1000
	maxEntry   = maxBytes - 1<<12 // of what is proposed; whoever asks for more asks for what no command needs
	manyWrites = 128
	manyBytes  = 1 << 19
	manyTables = 4
)

// ledger is what a call is to keep.
type ledger struct {
	engine *engine.Engine
	units  [][]api.Op // each of them alone leaves a right store behind those ahead of it
	writes int        // since the engine was tidied
	bytes  int
	over   bool // something could not be kept
}

// unit: what is added from now on need not be kept together with what was added ahead.
func (l *ledger) unit() { l.units = append(l.units, nil) }

func (l *ledger) add(ops ...api.Op) {
	last := len(l.units) - 1
	l.units[last] = append(l.units[last], ops...)
}

// write keeps all units, in one batch if they fit in one.
func (l *ledger) write() api.Errno {
	for _, b := range batches(l.units) {
		if code := l.engine.Write(b); code != api.OK {
			l.over = true
			return api.ErrDead
		}
		l.writes++
		l.bytes += sizeOf(b)
	}
	l.units = nil
	if code := l.tidy(); code != api.OK {
		l.over = true
		return api.ErrDead
	}
	return api.OK
}

// tidy gives up the engine's log, when it is long, and old tables, when they are many.
func (l *ledger) tidy() api.Errno {
	if l.writes < manyWrites && l.bytes < manyBytes {
		return api.OK
	}
	l.writes, l.bytes = 0, 0
	if code := l.engine.Flush(); code != api.OK {
		return code
	}
	if l.engine.Tables() < manyTables {
		return api.OK
	}
	return l.engine.Compact()
}

// batches: the units in their order, as many of them in each as it takes.
func batches(units [][]api.Op) [][]api.Op {
	var out [][]api.Op
	room := 0
	for _, u := range units {
		if len(u) == 0 {
			continue
		}
		size, last := sizeOf(u), len(out)-1
		if last < 0 || size > room || len(out[last])+len(u) > maxOps {
			out, last, room = append(out, nil), last+1, maxBytes
		}
		out[last] = append(out[last], u...)
		room -= size
	}
	return out
}

// sizeOf: the bytes of all keys and values.
func sizeOf(ops []api.Op) int {
	n := 0
	for _, o := range ops {
		n += len(o.Key) + len(o.Value) + len(o.End)
	}
	return n
}
