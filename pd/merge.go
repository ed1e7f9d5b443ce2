package pd

import (
	"maps"
	"slices"

	"regatta/api"
	"regatta/region"
)

// maxOpen is how many merges are open at most.
const maxOpen = 64

// merge is a merge of two regions, the source into the target.
type merge struct {
	id             uint64
	source, target api.Region
	status         int
}

// open: a merge is under way, and no other one that is has its regions.
func (p *Driver) open(c api.PdCmd) api.PdResult {
	if _, e := region.Merge(c.Other, c.Region); c.N == 0 || e != api.OK {
		return refused(api.ErrArg)
	}
	if _, known := p.merges[c.N]; known || p.isMerging(c.Region.ID) || p.isMerging(c.Other.ID) {
		return refused(api.ErrKnown)
	}
	if len(p.merging) >= 2*maxOpen {
		return refused(api.ErrFull)
	}
	p.merges[c.N] = merge{c.N, fresh(c.Region), fresh(c.Other), api.MergeOpen}
	p.merging[c.Region.ID] = struct{}{}
	p.merging[c.Other.ID] = struct{}{}
	return api.PdResult{Status: api.MergeOpen}
}

// decide: a merge that is open is decided; one that is decided stays so.
func (p *Driver) decide(c api.PdCmd) api.PdResult {
	m, known := p.merges[c.N]
	if !known {
		return refused(api.ErrArg)
	}
	if m.status == api.MergeOpen {
		m.status = outcome(c.Commit)
		p.merges[c.N] = m
		delete(p.merging, m.source.ID)
		delete(p.merging, m.target.ID)
	}
	return api.PdResult{Status: m.status}
}

func outcome(commit bool) int {
	if commit {
		return api.MergeCommit
	}
	return api.MergeBack
}

func (p *Driver) isMerging(id uint64) bool {
	_, is := p.merging[id]
	return is
}

// Merge: the source, the target and the status of a merge; MergeNone, if there is none.
func (p *Driver) Merge(id uint64) (api.Region, api.Region, int) {
	m, known := p.merges[id]
	if !known {
		return api.Region{}, api.Region{}, api.MergeNone
	}
	return fresh(m.source), fresh(m.target), m.status
}

// Open: the numbers of the merges that are open, rising.
func (p *Driver) Open() []uint64 {
	var l []uint64
	for _, id := range slices.Sorted(maps.Keys(p.merges)) {
		if p.merges[id].status == api.MergeOpen {
			l = append(l, id)
		}
	}
	return l
}

// Swallowed: has the region come into another one? Of a merge that is decided the target is held till the source is
// in it: so it was, if the target was seen at a later Version than the one with which the merge was opened.
func (p *Driver) Swallowed(id uint64) bool {
	for _, m := range p.merges {
		if m.source.ID == id && m.status == api.MergeCommit && p.seenBehind(m.target) {
			return true
		}
	}
	return false
}

// seenBehind: was the region told, or a part of a merge, at a later Version than this one?
func (p *Driver) seenBehind(r api.Region) bool {
	later := func(o api.Region) bool { return o.ID == r.ID && o.Epoch.Version > r.Epoch.Version }
	if slices.ContainsFunc(p.regions, later) {
		return true
	}
	for _, m := range p.merges {
		if later(m.source) || later(m.target) {
			return true
		}
	}
	return false
}
