package state

import (
	"slices"

	"regatta/api"
)

// Apply: an entry with a command. Of a split the state of the right region is answered, too.
func (s *State) Apply(index uint64, c api.Cmd) (api.Result, *State, api.Errno) {
	if e := s.Skip(index); e != api.OK {
		return api.Result{}, nil, e
	}
	if r, over := s.ahead(c); over {
		return r, nil, api.OK
	}
	r, right := s.commands()[c.Kind](c)
	return r, right, api.OK
}

// ahead: what is answered, if the command is over ahead of what its kind does.
func (s *State) ahead(c api.Cmd) (api.Result, bool) {
	switch {
	case c.Kind == api.CmdBack && !s.bound(c.ID):
		return api.Result{Err: api.ErrMerge}, true
	case c.Kind != api.CmdBack && s.frozen != 0:
		return api.Result{Err: api.ErrFrozen}, true
	case c.Kind == api.CmdAbsorb && s.hasSwallowed(c.ID):
		return api.Result{}, true // it comes again, and the epoch has gone on by its first coming
	case s.stale(c):
		return s.moved(), true
	case c.Kind < api.CmdPrewrite || c.Kind > api.CmdPeers:
		return api.Result{Err: api.ErrArg}, true
	}
	return api.Result{}, false
}

// bound: is it frozen or held by that merge?
func (s *State) bound(id uint64) bool { return id != 0 && (id == s.frozen || id == s.held) }

func (s *State) hasSwallowed(id uint64) bool {
	_, there := slices.BinarySearch(s.swallowed, id)
	return there
}

// stale: is the command meant for another epoch? To those that only go by keys the members do not matter.
func (s *State) stale(c api.Cmd) bool {
	switch c.Kind {
	case api.CmdSplit, api.CmdPrepare, api.CmdAbsorb, api.CmdPeers:
		return c.Epoch != s.region.Epoch
	}
	return c.Kind >= api.CmdPrewrite && c.Kind <= api.CmdGC && c.Epoch.Version != s.region.Epoch.Version
}

// commands: what each kind does.
func (s *State) commands() [api.CmdPeers + 1]func(api.Cmd) (api.Result, *State) {
	return [...]func(api.Cmd) (api.Result, *State){
		api.CmdPrewrite:     s.transact,
		api.CmdCommit:       s.transact,
		api.CmdRollback:     s.transact,
		api.CmdPess:         s.transact,
		api.CmdPessRollback: s.transact,
		api.CmdCheck:        s.transact,
		api.CmdSecondaries:  s.transact,
		api.CmdResolve:      s.transact,
		api.CmdFloor:        s.transact,
		api.CmdGC:           s.transact,
		api.CmdSplit:        s.split,
		api.CmdPrepare:      s.prepare,
		api.CmdBack:         s.back,
		api.CmdAbsorb:       s.absorb,
		api.CmdPeers:        s.place,
	}
}

// answer: all that a command answers which tells nothing beside an error or OK.
func answer(e api.Errno) (api.Result, *State) { return api.Result{Err: e}, nil }

// transact: a transaction's command, at keys of the region.
func (s *State) transact(c api.Cmd) (api.Result, *State) {
	if key, strays := s.stray(c); strays {
		return elsewhere(key), nil
	}
	return s.store.Do(c), nil
}

// split: the keys from the command's one on go to a region of their own.
func (s *State) split(c api.Cmd) (api.Result, *State) {
	if s.held != 0 {
		return answer(api.ErrMerge)
	}
	if len(c.Keys) != 1 {
		return answer(api.ErrArg)
	}
	right, e := s.cut(c.Keys[0], c.ID, numbers(c.Peers))
	if e != api.OK {
		return answer(e)
	}
	return api.Result{New: right.Region()}, &State{data: right}
}

// prepare: the source of a merge is frozen, so that its data stay as they are; the target is held, so that it stays beside the source.
func (s *State) prepare(c api.Cmd) (api.Result, *State) {
	if c.ID == 0 || s.held != 0 {
		return answer(api.ErrMerge)
	}
	if c.Force {
		s.held = c.ID
	} else {
		s.frozen = c.ID
	}
	return answer(api.OK)
}

// back: nothing comes of the merge. (That it is this one, was asked ahead.)
func (s *State) back(api.Cmd) (api.Result, *State) {
	s.frozen, s.held = 0, 0
	return answer(api.OK)
}

// absorb: the source of the merge comes in.
func (s *State) absorb(c api.Cmd) (api.Result, *State) {
	if c.ID == 0 || s.held != c.ID {
		return answer(api.ErrMerge)
	}
	if e := s.join(c.Region, c.Image); e != api.OK {
		return answer(e)
	}
	s.held = 0
	s.swallow(c.Region.ID)
	s.swallow(c.ID)
	return answer(api.OK)
}

func (s *State) swallow(id uint64) {
	if i, there := slices.BinarySearch(s.swallowed, id); !there {
		s.swallowed = slices.Insert(s.swallowed, i, id)
	}
}

// place: where peers are that are to become members.
func (s *State) place(c api.Cmd) (api.Result, *State) {
	if s.held != 0 {
		return answer(api.ErrMerge)
	}
	if !placed(c.Peers) {
		return answer(api.ErrArg)
	}
	s.places = slices.Clone(c.Peers)
	return answer(api.OK)
}

// placed: can these be places?
func placed(l []api.Peer) bool {
	nowhere := func(p api.Peer) bool { return p.ID == 0 || p.Store < 1 }
	return len(l) <= api.MaxPeers && !slices.ContainsFunc(l, nowhere)
}

func numbers(l []api.Peer) []uint64 {
	var ids []uint64
	for _, p := range l {
		ids = append(ids, p.ID)
	}
	return ids
}
