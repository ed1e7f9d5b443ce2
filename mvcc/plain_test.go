package mvcc

import (
	"bytes"
	"cmp"
	"maps"
	"slices"

	"regatta/api"
)

// plain is a store by the words of the chapter, with no thought of speed: locks and writes lie in maps, in any order.
type plain struct {
	floor, gc uint64
	locks     map[string]api.Lock
	writes    map[string][]api.Write
}

func newPlain() *plain {
	return &plain{locks: map[string]api.Lock{}, writes: map[string][]api.Write{}}
}

func (p *plain) copy() *plain {
	o := &plain{floor: p.floor, gc: p.gc, locks: maps.Clone(p.locks), writes: map[string][]api.Write{}}
	for k, l := range p.writes {
		o.writes[k] = slices.Clone(l)
	}
	return o
}

func (p *plain) keys() []string {
	l := slices.Collect(maps.Keys(p.locks))
	for k, w := range p.writes {
		if len(w) > 0 {
			l = append(l, k)
		}
	}
	slices.Sort(l)
	return slices.Compact(l)
}

// falling: the writes of a key in their order.
func (p *plain) falling(k string) []api.Write {
	l := slices.Clone(p.writes[k])
	slices.SortFunc(l, func(a, b api.Write) int {
		return cmp.Or(-cmp.Compare(a.Commit, b.Commit), cmp.Compare(a.Start, b.Start))
	})
	return l
}

func (p *plain) image() api.Image {
	x := api.Image{Floor: p.floor, GC: p.gc}
	for _, k := range p.keys() {
		l, locked := p.locks[k]
		x.Cells = append(x.Cells, api.Cell{Key: []byte(k), Locked: locked, Lock: l, Writes: p.falling(k)})
	}
	return x
}

func (p *plain) size() int {
	n := 0
	for _, k := range p.keys() {
		n += 1 + len(k)
		for _, w := range p.writes[k] {
			n += 1 + len(w.Value)
		}
	}
	return n
}

// The states of a transaction at a key.
const (
	nothing = iota
	ownLock
	ownPess
	isCommitted
	isRolled
)

func (p *plain) state(k string, start uint64) (int, uint64) {
	if l, locked := p.locks[k]; locked && l.Start == start {
		if l.Kind == api.KindPess {
			return ownPess, 0
		}
		return ownLock, 0
	}
	is := nothing
	for _, w := range p.writes[k] {
		if w.Start == start && w.Kind != api.KindRollback {
			return isCommitted, w.Commit
		}
		if w.Start == start {
			is = isRolled
		}
	}
	return is, 0
}

func (p *plain) conflict(k string, above uint64) uint64 {
	last := uint64(0)
	for _, w := range p.writes[k] {
		if w.Kind != api.KindRollback && w.Commit > above {
			last = max(last, w.Commit)
		}
	}
	return last
}

func (p *plain) write(k string, w api.Write) { p.writes[k] = append(p.writes[k], w) }

func (p *plain) roll(k string, start uint64) {
	if is, _ := p.state(k, start); is == ownLock || is == ownPess {
		delete(p.locks, k)
	}
	if is, _ := p.state(k, start); is != isRolled {
		p.write(k, api.Write{Kind: api.KindRollback, Commit: start, Start: start})
	}
}

func (p *plain) settle(k string, at uint64) {
	l := p.locks[k]
	delete(p.locks, k)
	p.write(k, api.Write{Kind: l.Kind, Commit: at, Start: l.Start, Value: l.Value})
}

func at(e api.Errno, k string) api.Result { return api.Result{Err: e, Key: []byte(k)} }

func atTime(e api.Errno, k string, commit uint64) api.Result {
	return api.Result{Err: e, Key: []byte(k), Commit: commit}
}

func atLock(l api.Lock) api.Result { return api.Result{Err: api.ErrLocked, Key: l.Key, Lock: l} }

var arg = api.Result{Err: api.ErrArg}

// do: what the command answers; the store as it is then, which is another one, or the same if it is refused.
func (p *plain) do(c api.Cmd) (api.Result, *plain) {
	o := p.copy()
	r := o.done(c)
	if r.Err != api.OK {
		return r, p
	}
	return r, o
}

func (p *plain) done(c api.Cmd) api.Result {
	switch c.Kind {
	case api.CmdPrewrite:
		return p.prewrite(c)
	case api.CmdPess:
		return p.pess(c)
	case api.CmdCheck:
		return p.check(c)
	case api.CmdSecondaries:
		return p.secondaries(c)
	case api.CmdResolve:
		return p.resolve(c)
	case api.CmdFloor:
		p.floor = max(p.floor, c.Commit)
		return api.Result{}
	case api.CmdGC:
		return p.collect(c)
	}
	if c.Kind == api.CmdCommit && c.Commit <= c.Start {
		return arg
	}
	for _, k := range c.Keys {
		if r := p.doKey(c, string(k)); r.Err != api.OK {
			return r
		}
	}
	return api.Result{}
}

func (p *plain) doKey(c api.Cmd, k string) api.Result {
	is, when := p.state(k, c.Start)
	switch {
	case c.Kind == api.CmdCommit && is == ownLock && c.Commit < p.locks[k].MinCommit:
		return atTime(api.ErrEarly, k, p.locks[k].MinCommit)
	case c.Kind == api.CmdCommit && is == ownLock:
		p.settle(k, c.Commit)
	case c.Kind == api.CmdCommit && is == isRolled:
		return at(api.ErrRolled, k)
	case c.Kind == api.CmdCommit && is != isCommitted:
		return at(api.ErrNoLock, k)
	case c.Kind == api.CmdRollback && is == isCommitted:
		return atTime(api.ErrCommitted, k, when)
	case c.Kind == api.CmdRollback:
		p.roll(k, c.Start)
	case c.Kind == api.CmdPessRollback && is == ownPess && p.locks[k].ForUpdate <= c.ForUpdate:
		delete(p.locks, k)
	}
	return api.Result{}
}

// mayLock: what is answered where the transaction has no lock.
func (p *plain) mayLock(c api.Cmd, k string, held bool, above uint64) api.Result {
	if l, locked := p.locks[k]; locked {
		return atLock(l)
	}
	switch is, when := p.state(k, c.Start); {
	case is == isCommitted:
		return atTime(api.ErrCommitted, k, when)
	case is == isRolled:
		return at(api.ErrRolled, k)
	case c.Start <= p.floor:
		return at(api.ErrTooOld, k)
	case held:
		return at(api.ErrNoLock, k)
	case p.conflict(k, above) > 0:
		return atTime(api.ErrConflict, k, p.conflict(k, above))
	}
	return api.Result{}
}

func (p *plain) prewrite(c api.Cmd) api.Result {
	for _, m := range c.Muts {
		if is, _ := p.state(string(m.Key), c.Start); is != ownLock && is != ownPess {
			if r := p.mayLock(c, string(m.Key), m.Held, c.Start); r.Err != api.OK {
				return r
			}
		}
	}
	least := max(c.Start+1, c.ForUpdate+1, c.Commit)
	if c.Async || c.One {
		least = max(least, c.Max+1)
	}
	greatest := uint64(0)
	for _, m := range c.Muts {
		k := string(m.Key)
		is, _ := p.state(k, c.Start)
		switch {
		case is == ownLock && c.One:
			return arg
		case is == ownLock:
		case c.One:
			delete(p.locks, k)
			p.write(k, api.Write{Kind: m.Kind, Commit: least, Start: c.Start, Value: m.Value})
		default:
			l := api.Lock{Kind: m.Kind, Key: m.Key, Primary: c.Primary, Value: m.Value, Start: c.Start, ForUpdate: c.ForUpdate, MinCommit: least, Async: c.Async}
			if bytes.Equal(c.Primary, m.Key) {
				l.Secondaries = c.Secondaries
			}
			p.locks[k] = l
		}
		greatest = max(greatest, p.locks[k].MinCommit)
	}
	if c.One {
		return api.Result{Commit: least}
	}
	return api.Result{Commit: greatest}
}

func (p *plain) pess(c api.Cmd) api.Result {
	if c.ForUpdate < c.Start {
		return arg
	}
	for _, k := range c.Keys {
		is, _ := p.state(string(k), c.Start)
		if is == ownLock || is == ownPess {
			continue
		}
		if r := p.mayLock(c, string(k), false, c.ForUpdate); r.Err != api.OK {
			return r
		}
	}
	for _, k := range c.Keys {
		is, _ := p.state(string(k), c.Start)
		if is == ownLock {
			continue
		}
		l := api.Lock{Kind: api.KindPess, Key: k, Primary: c.Primary, Start: c.Start, ForUpdate: c.ForUpdate, MinCommit: c.ForUpdate + 1}
		if is == ownPess {
			l = p.locks[string(k)]
			l.ForUpdate = max(l.ForUpdate, c.ForUpdate)
		}
		p.locks[string(k)] = l
	}
	return api.Result{}
}

func (p *plain) check(c api.Cmd) api.Result {
	k := string(c.Primary)
	is, when := p.state(k, c.Start)
	switch is {
	case isCommitted:
		return api.Result{Status: api.TxnCommitted, Commit: when}
	case isRolled:
		return api.Result{Status: api.TxnRolled}
	case nothing:
		if c.Start <= p.gc {
			return at(api.ErrTooOld, k)
		}
		if !c.Force {
			return api.Result{Status: api.TxnNone}
		}
	default:
		if !c.Force || p.locks[k].Async && is != ownPess {
			return api.Result{Status: api.TxnLocked, Lock: p.locks[k]}
		}
	}
	p.roll(k, c.Start)
	return api.Result{Status: api.TxnRolled}
}

func (p *plain) secondaries(c api.Cmd) api.Result {
	greatest := uint64(0)
	for _, b := range c.Keys {
		k := string(b)
		is, when := p.state(k, c.Start)
		switch {
		case is == ownLock:
			greatest = max(greatest, p.locks[k].MinCommit)
		case is == isCommitted:
			return api.Result{Status: api.TxnCommitted, Commit: when}
		case is == nothing && c.Start <= p.gc:
			return at(api.ErrTooOld, k)
		default:
			p.roll(k, c.Start)
			return api.Result{Status: api.TxnRolled}
		}
	}
	return api.Result{Status: api.TxnLocked, Commit: greatest}
}

func (p *plain) resolve(c api.Cmd) api.Result {
	if c.Commit != 0 && c.Commit <= c.Start {
		return arg
	}
	for _, k := range p.keys() {
		if len(c.Keys) > 0 && !slices.ContainsFunc(c.Keys, func(b []byte) bool { return string(b) == k }) {
			continue
		}
		is, _ := p.state(k, c.Start)
		switch {
		case is != ownLock && is != ownPess:
		case c.Commit == 0:
			p.roll(k, c.Start)
		case is == ownPess:
			delete(p.locks, k)
		case c.Commit < p.locks[k].MinCommit:
			return atTime(api.ErrEarly, k, p.locks[k].MinCommit)
		default:
			p.settle(k, c.Commit)
		}
	}
	return api.Result{}
}

func (p *plain) collect(c api.Cmd) api.Result {
	if c.Commit > p.floor {
		return arg
	}
	for _, k := range p.keys() {
		if l, locked := p.locks[k]; locked && l.Start <= c.Commit {
			return atLock(l)
		}
	}
	p.gc = max(p.gc, c.Commit)
	for k := range p.writes {
		var kept []api.Write
		found := false
		for _, w := range p.falling(k) {
			if w.Commit > c.Commit {
				kept = append(kept, w)
			} else if !found && (w.Kind == api.KindPut || w.Kind == api.KindDelete) {
				found = true
				kept = append(kept, w)
			}
		}
		p.writes[k] = kept
	}
	return api.Result{}
}

func (p *plain) get(k string, ts uint64) ([]byte, bool, api.Result) {
	if ts < p.gc {
		return nil, false, api.Result{Err: api.ErrTooOld}
	}
	if l, locked := p.locks[k]; locked && (l.Kind == api.KindPut || l.Kind == api.KindDelete) && l.Start <= ts && l.MinCommit <= ts {
		return nil, false, atLock(l)
	}
	for _, w := range p.falling(k) {
		if w.Commit <= ts && w.Kind == api.KindPut {
			return w.Value, true, api.Result{}
		}
		if w.Commit <= ts && w.Kind == api.KindDelete {
			break
		}
	}
	return nil, false, api.Result{}
}

func (p *plain) scan(from, to string, limit int, ts uint64) ([]api.Pair, api.Result) {
	if ts < p.gc {
		return nil, api.Result{Err: api.ErrTooOld}
	}
	var l []api.Pair
	for _, k := range p.keys() {
		if len(l) >= limit || k < from || to != "" && k >= to {
			continue
		}
		v, found, r := p.get(k, ts)
		if r.Err != api.OK {
			return nil, r
		}
		if found {
			l = append(l, api.Pair{Key: []byte(k), Value: v})
		}
	}
	return l, api.Result{}
}

func (p *plain) lockList(from, to string, limit int, ts uint64) []api.Lock {
	var out []api.Lock
	for _, k := range p.keys() {
		l, locked := p.locks[k]
		if locked && len(out) < limit && k >= from && (to == "" || k < to) && l.Start <= ts {
			out = append(out, l)
		}
	}
	return out
}
