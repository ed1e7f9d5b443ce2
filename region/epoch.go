package region

import (
	"cmp"
	"math"

	"regatta/api"
)

// Newer: is a the later one? Version counts ahead of Conf.
func Newer(a, b api.Epoch) bool {
	return cmp.Or(cmp.Compare(a.Version, b.Version), cmp.Compare(a.Conf, b.Conf)) > 0
}

// Stale: is e behind r's epoch in one of its numbers?
func Stale(r api.Region, e api.Epoch) bool { return joined(r.Epoch, e) != e }

// joined: the least epoch that is behind neither.
func joined(a, b api.Epoch) api.Epoch {
	return api.Epoch{Conf: max(a.Conf, b.Conf), Version: max(a.Version, b.Version)}
}

// greatest: a number that cannot rise: no epoch behind one that has it could be told.
func greatest(n uint64) bool { return n == math.MaxUint64 }
