package sched

import (
	"fmt"
	"slices"
	"strings"
	"testing"

	"regatta/api"
)

const spare = 3

// room lays a list into memory with spare room behind it.
func room[T any](l []T) []T { return append(slices.Clone(l), make([]T, spare)...)[:len(l)] }

func roomy(l []api.RegionView) []api.RegionView {
	l = room(l)
	for i := range l {
		r := &l[i].Region
		r.Start, r.End, r.Peers = room(r.Start), room(r.End), room(r.Peers)
	}
	return l
}

// whole tells views with all their spare room.
func whole(stores []api.StoreView, l []api.RegionView) string {
	s := fmt.Sprintln(stores[:cap(stores)], l[:cap(l)])
	for _, v := range l {
		r := v.Region
		s += fmt.Sprintln(r.Start[:cap(r.Start)], r.End[:cap(r.End)], r.Peers[:cap(r.Peers)])
	}
	return s
}

func TestNothingHandedInIsChanged(t *testing.T) { // R3
	for run := range 500 {
		r := dice(run)
		p, stores, l := somePolicy(r), room(someStores(r, true)), roomy(someViews(r, true))
		was := whole(stores, l)
		Decide(p, stores, l)
		for _, v := range l {
			for kind := api.OrderAdd; kind <= api.OrderMerge; kind++ {
				Steps(api.Order{Kind: kind, Store: 1 + r.IntN(5)}, v.Region)
			}
		}
		if whole(stores, l) != was {
			t.Fatalf("run %d: what is handed in is changed: %s; was %s", run, whole(stores, l), was)
		}
	}
}

func TestAnswersAreNew(t *testing.T) { // R3, R4: what is done to an answer is nothing to the next call
	stores, l := storesOf("1 2 3"), viewsOf("1 - m 11@1,12@2; 2 m - 21@1,22@2")
	x, r := Decide(api.Policy{Replicas: 3}, stores, l), Steps(api.Order{}, l[0].Region)
	clear(x[:cap(x)])
	clear(r[:cap(r)])
	if got := told(Decide(api.Policy{Replicas: 3}, stores, l)); got != "add 1 on 3, add 2 on 3" {
		t.Errorf("Decide again: %s", got)
	}
	if got := fmt.Sprint(Steps(api.Order{}, l[0].Region)); got != "[2 2]" {
		t.Errorf("Steps again: %s", got)
	}
}

func TestNilIsEmpty(t *testing.T) { // R3
	l := viewsOf("1 - m 11@1; 2 m - 21@1")
	l[0].Region.Start, l[1].Region.End = nil, nil
	if got := told(Decide(api.Policy{Merge: 1}, storesOf("1"), l)); got != "merge 1 into 2" {
		t.Errorf("with nil: %s", got)
	}
	l[0].Region.Start, l[1].Region.End = []byte{}, []byte{}
	if got := told(Decide(api.Policy{Merge: 1}, storesOf("1"), l)); got != "merge 1 into 2" {
		t.Errorf("with empty lists: %s", got)
	}
}

func TestVeryManyRegions(t *testing.T) { // R1: a call does not look at all regions for each of them
	const many = 100000
	var l []api.RegionView
	var want []string
	for i := range uint64(many) {
		v := api.RegionView{Region: api.Region{ID: many - i, Peers: []api.Peer{{ID: 1, Store: 1}}}}
		if i > 0 {
			v.Region.Start = []byte(fmt.Sprintf("%06d", i))
		}
		if i < many-1 {
			v.Region.End = []byte(fmt.Sprintf("%06d", i+1))
		}
		l = append(l, v)
	}
	// The last one in the order of keys is the first one by number: each second one is merged into the one behind it.
	for id := 2; id <= many; id += 2 {
		want = append(want, fmt.Sprintf("merge %d into %d", id, id-1))
	}
	if got := told(Decide(api.Policy{Merge: 1}, storesOf("1"), l)); got != strings.Join(want, ", ") {
		t.Errorf("%d regions: %.200s", many, got)
	}
}
