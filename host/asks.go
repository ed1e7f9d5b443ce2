package host

import (
	"regatta/api"
	"regatta/letter"
	"regatta/state"
)

const (
	maxLater  = 64
	endOfTime = 1 << 62 // above all timestamps
)

// regionPart is what the leader of a region has.
type regionPart struct {
	mark     uint64          // its read mark, as far as others have asked it
	marked   bool            // a timestamp of this office is in it
	asking   uint64          // the ask for that; 0: none
	later    []func(outcome) // what waits for the mark
	reported report
	tasks    []*task // orders, in the order in which they came
	wish     wish
	union    union
}

// unmark: what comes into the region may have been read elsewhere at later times.
func (o *office) unmark() {
	delete(o.asks, o.asking)
	o.marked, o.asking = false, 0
}

// seekMark asks for a timestamp behind all reads of the leaders ahead.
func (h *Host) seekMark(p *peer) {
	o := p.office
	if o.marked || o.asking != 0 {
		return
	}
	o.asking = h.ask(p, letter.Part{Kind: letter.AskTime}, func(x letter.Part) {
		o.mark, o.marked, o.asking = max(o.mark, x.TS), true, 0
		l := o.later
		o.later = nil
		for _, then := range l {
			then(outcome{known: true})
		}
	})
}

// reached: the region's peer here, if it can be asked; else the asker is told who else may lead.
func (h *Host) reached(from int, x letter.Part) *peer {
	p := h.leading(x.Group)
	if p != nil && !p.office.isFull() {
		return p
	}
	a := letter.Part{Kind: letter.Answer, Tag: x.Tag, Result: api.Result{Err: api.ErrLeader}}
	if q := h.peers[x.Group]; q != nil && q.state != nil && p == nil {
		a.Leader = q.leaderStore()
	}
	h.send(from, a)
	return nil
}

// onAskCmd: a client wants a command of a transaction done.
func (h *Host) onAskCmd(from int, x letter.Part) {
	p := h.reached(from, x)
	if p == nil {
		return
	}
	answer := func(r api.Result) { h.send(from, letter.Part{Kind: letter.Answer, Tag: x.Tag, Result: r}) }
	c := x.Cmd
	switch {
	case c.Kind < api.CmdPrewrite || c.Kind > api.CmdGC:
		answer(api.Result{Err: api.ErrArg})
	case c.Kind != api.CmdPrewrite || !c.Async && !c.One || p.office.marked:
		h.do(p, c, answer)
	case len(p.office.later) >= maxLater:
		answer(api.Result{Err: api.ErrLeader})
	default:
		p.office.later = append(p.office.later, func(got outcome) {
			if !got.known {
				answer(api.Result{Err: api.ErrLeader}) // it was not proposed
				return
			}
			h.do(p, c, answer)
		})
	}
}

// do proposes a command, and answers what has come of it.
func (h *Host) do(p *peer, c api.Cmd, answer func(api.Result)) {
	if c.Kind == api.CmdPrewrite && (c.Async || c.One) {
		c.Max = max(c.Max, p.office.mark)
	}
	data := state.EncodeCmd(c)
	if len(data) > maxEntry {
		answer(api.Result{Err: api.ErrArg})
		return
	}
	h.propose(p, data, func(got outcome) {
		r := got.result
		switch {
		case got.refused:
			r.Err = api.ErrLeader // it is handing over
		case !got.known:
			r.Err = api.ErrUnknown
		case r.Err == api.OK && c.Kind >= api.CmdFloor:
			r.New = p.state.Region() // whose range it was done over
		}
		answer(r)
	})
}

func (h *Host) onAskGet(from int, x letter.Part) {
	h.look(from, x, func(s *state.State, a *letter.Part) {
		a.Value, a.Found, a.Result = s.Get(x.Key, x.TS, x.Epoch)
	})
}

func (h *Host) onAskScan(from int, x letter.Part) {
	h.look(from, x, func(s *state.State, a *letter.Part) {
		a.Pairs, a.Result = s.Scan(x.Key, x.End, min(x.Limit, api.MaxScan), x.TS, x.Epoch)
	})
}

func (h *Host) onAskLocks(from int, x letter.Part) {
	h.look(from, x, func(s *state.State, a *letter.Part) {
		a.Locks, a.Result = s.Locks(x.Key, x.End, min(x.Limit, api.MaxScan), x.TS, x.Epoch)
	})
}

// look reads for a client, when it is sure that nobody else leads and that all is applied which may have been answered.
func (h *Host) look(from int, x letter.Part, what func(*state.State, *letter.Part)) {
	p := h.reached(from, x)
	if p == nil {
		return
	}
	a := letter.Part{Kind: letter.Answer, Tag: x.Tag}
	if x.TS == 0 || x.TS >= endOfTime {
		a.Result.Err = api.ErrArg
		h.send(from, a)
		return
	}
	if x.Kind != letter.AskLocks {
		p.office.mark = max(p.office.mark, x.TS)
	}
	h.read(p, func(got outcome) {
		if got.known {
			what(p.state, &a)
		} else {
			a.Result.Err = api.ErrLeader
		}
		h.send(from, a)
	})
}
