package pd

import (
	"bytes"
	"slices"

	"regatta/api"
	"regatta/region"
)

// learn: a region is as it is told, unless what is known of it, or of its keys, is later.
func (p *Driver) learn(c api.PdCmd) api.PdResult {
	told := c.Region
	if e := region.Check(told); e != api.OK {
		return refused(e)
	}
	if slices.ContainsFunc(p.regions, func(r api.Region) bool { return outdates(r, told) }) {
		return refused(api.ErrStale)
	}
	var stay []api.Region
	for _, r := range p.regions {
		if r.ID != told.ID && !region.Overlap(r, told) {
			stay = append(stay, r)
		}
	}
	if len(stay) >= api.MaxRegions {
		return refused(api.ErrFull)
	}
	i, _ := slices.BinarySearchFunc(stay, told.Start, func(r api.Region, start []byte) int { return bytes.Compare(r.Start, start) })
	p.regions = slices.Insert(stay, i, fresh(told))
	return api.PdResult{}
}

// outdates: does what is known of r forbid what is told? Of two regions at the same keys the later Version is right, and
// of one Version neither is.
func outdates(r, told api.Region) bool {
	if r.ID == told.ID {
		return region.Newer(r.Epoch, told.Epoch)
	}
	return region.Overlap(r, told) && r.Epoch.Version >= told.Epoch.Version
}

// Region: the known region that covers the key.
func (p *Driver) Region(key []byte) (api.Region, bool) {
	i := region.Find(p.regions, key)
	if i < 0 {
		return api.Region{}, false
	}
	return fresh(p.regions[i]), true
}

// Regions: all that are known, rising by Start.
func (p *Driver) Regions() []api.Region {
	var l []api.Region
	for _, r := range p.regions {
		l = append(l, fresh(r))
	}
	return l
}

// fresh: the same in new memory.
func fresh(r api.Region) api.Region {
	r.Start, r.End, r.Peers = bytes.Clone(r.Start), bytes.Clone(r.End), slices.Clone(r.Peers)
	return r
}
