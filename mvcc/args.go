package mvcc

import (
	"bytes"

	"regatta/api"
)

// A time that is handed in is below it; a least time, one above such a time, may be it.
const ceiling = 1 << 62

// refused: is it no command, whatever is in the store?
func refused(c api.Cmd) bool {
	if c.Kind < api.CmdPrewrite || c.Kind > api.CmdGC || max(c.Start, c.Commit, c.ForUpdate, c.Max) >= ceiling {
		return true
	}
	return c.Start == 0 && c.Kind != api.CmdFloor && c.Kind != api.CmdGC ||
		!listed(keysOf(c.Muts)) || !listed(c.Keys) || lacks(c)
}

// lacks: is a key missing that the kind asks for?
func lacks(c api.Cmd) bool {
	switch c.Kind {
	case api.CmdPrewrite:
		return len(c.Muts) == 0
	case api.CmdCheck:
		return !isKey(c.Primary)
	case api.CmdResolve, api.CmdFloor, api.CmdGC:
		return false
	}
	return len(c.Keys) == 0
}

// refusedPrewrite: are these no changes, or no primary and secondaries?
func refusedPrewrite(c api.Cmd) bool {
	if !isKey(c.Primary) || len(c.Secondaries) > 0 && !c.Async {
		return true
	}
	for _, key := range c.Secondaries {
		if !isKey(key) {
			return true
		}
	}
	for _, m := range c.Muts {
		if m.Kind < api.KindPut || m.Kind > api.KindLock || !fits(m.Kind, m.Value) {
			return true
		}
	}
	return false
}

// listed: may these be the keys of a command?
func listed(keys [][]byte) bool {
	if len(keys) > api.MaxKeys {
		return false
	}
	for i, key := range keys {
		if !isKey(key) || i > 0 && bytes.Compare(keys[i-1], key) >= 0 {
			return false
		}
	}
	return true
}

func isKey(b []byte) bool { return len(b) > 0 && len(b) <= api.MaxKey }

// fits: may a lock or write of this kind have the value?
func fits(kind int, value []byte) bool {
	return len(value) == 0 || kind == api.KindPut && len(value) <= api.MaxValue
}

func keysOf(muts []api.Mut) [][]byte {
	keys := make([][]byte, len(muts))
	for i, m := range muts {
		keys[i] = m.Key
	}
	return keys
}
