package state

import (
	"bytes"
	"slices"

	"regatta/api"
	"regatta/mvcc"
	"regatta/region"
)

// data is a region with what lies in it. The store is kept from others, who could change it beside the entries.
type data struct {
	region api.Region
	store  *mvcc.Store
}

// Region: its range, members and epoch.
func (d *data) Region() api.Region { return freshRegion(d.region) }

// Image: all that lies in it.
func (d *data) Image() api.Image { return d.store.Image() }

// Size: how much lies in it.
func (d *data) Size() int { return d.store.Size() }

// fill: a store with that image, if all of its keys are the region's.
func fill(r api.Region, x api.Image) (*mvcc.Store, api.Errno) {
	store, e := mvcc.Load(x)
	if e != api.OK {
		return nil, e
	}
	for _, c := range x.Cells {
		if !region.Covers(r, c.Key) {
			return nil, api.ErrRange
		}
	}
	return store, api.OK
}

// cut: what lies from the key on goes to a new region with these peers.
func (d *data) cut(key []byte, id uint64, peers []uint64) (data, api.Errno) {
	low, high, e := region.Split(d.region, key, id, peers)
	if e != api.OK {
		return data{}, e
	}
	d.region = low
	return data{region: high, store: d.store.Cut(key)}, api.OK
}

// join: the source's range and what lies in it come to its own.
func (d *data) join(source api.Region, x api.Image) api.Errno {
	both, e := region.Merge(d.region, source)
	if e != api.OK {
		return e
	}
	store, e := fill(source, x)
	if e != api.OK {
		return e
	}
	d.region = both
	d.store.Join(store)
	return api.OK
}

// stray: the first key of the command that is not the region's.
func (d *data) stray(c api.Cmd) ([]byte, bool) {
	for _, m := range c.Muts {
		if !region.Covers(d.region, m.Key) {
			return m.Key, true
		}
	}
	for _, key := range c.Keys {
		if !region.Covers(d.region, key) {
			return key, true
		}
	}
	// Of the other kinds Primary is a name: it may lie anywhere.
	return c.Primary, c.Kind == api.CmdCheck && !region.Covers(d.region, c.Primary)
}

// elsewhere: what is answered where a key is not the region's.
func elsewhere(key []byte) api.Result {
	return api.Result{Err: api.ErrRange, Key: bytes.Clone(key)}
}

// moved: what is answered to who believes in another epoch: the region as it is.
func (d *data) moved() api.Result {
	return api.Result{Err: api.ErrEpoch, New: d.Region()}
}

func freshRegion(r api.Region) api.Region {
	r.Start, r.End, r.Peers = bytes.Clone(r.Start), bytes.Clone(r.End), slices.Clone(r.Peers)
	return r
}
