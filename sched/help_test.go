package sched

import (
	"fmt"
	"math/rand/v2"
	"slices"
	"strconv"
	"strings"
	"testing"

	"regatta/api"
)

func number(s string) uint64 {
	n, err := strconv.ParseUint(s, 10, 64)
	if err != nil {
		panic(err)
	}
	return n
}

func count(s string) int {
	n, err := strconv.Atoi(s)
	if err != nil {
		panic(err)
	}
	return n
}

// storesOf reads 1 2! 3: numbers of stores; one with ! is not alive.
func storesOf(s string) []api.StoreView {
	var l []api.StoreView
	for _, w := range strings.Fields(s) {
		n, dead := strings.CutSuffix(w, "!")
		l = append(l, api.StoreView{Store: count(n), Alive: !dead})
	}
	return l
}

// peersOf reads 11@1,12@2~: numbers, stores, and who is a learner; - is nobody.
func peersOf(s string) []api.Peer {
	if s == "-" {
		return nil
	}
	var l []api.Peer
	for _, w := range strings.Split(s, ",") {
		id, store, _ := strings.Cut(strings.TrimSuffix(w, "~"), "@")
		l = append(l, api.Peer{ID: number(id), Store: count(store), Learner: strings.HasSuffix(w, "~")})
	}
	return l
}

// viewOf reads 1 - m 11@1,12@2~ size 5 leader 1 busy: number, Start, End (- is none), peers, and what else there is to say.
func viewOf(s string) api.RegionView {
	w := strings.Fields(s)
	r := api.Region{ID: number(w[0]), Start: []byte(strings.TrimSuffix(w[1], "-")), End: []byte(strings.TrimSuffix(w[2], "-")), Peers: peersOf(w[3])}
	r.Epoch = api.Epoch{Conf: 1, Version: 1}
	v := api.RegionView{Region: r}
	for i := 4; i < len(w); i++ {
		switch w[i] {
		case "size":
			v.Size = count(w[i+1])
			i++
		case "leader":
			v.Leader = count(w[i+1])
			i++
		case "version":
			v.Region.Epoch.Version = number(w[i+1])
			i++
		case "busy":
			v.Busy = true
		default:
			panic(s)
		}
	}
	return v
}

// viewsOf reads views with ; between them.
func viewsOf(s string) []api.RegionView {
	var l []api.RegionView
	for _, w := range strings.Split(s, ";") {
		if w = strings.TrimSpace(w); w != "" {
			l = append(l, viewOf(w))
		}
	}
	return l
}

// policyOf reads 3 or 3 split 5 merge 2: Replicas, and the sizes.
func policyOf(s string) api.Policy {
	w := strings.Fields(s)
	p := api.Policy{Replicas: count(w[0])}
	for i := 1; i < len(w); i += 2 {
		if w[i] == "split" {
			p.Split = count(w[i+1])
		} else {
			p.Merge = count(w[i+1])
		}
	}
	return p
}

// toldOrder tells an order with all its fields that are not 0.
func toldOrder(o api.Order) string {
	names := [...]string{"none", "add", "promote", "remove", "leader", "split", "merge"}
	s := fmt.Sprint(names[o.Kind], " ", o.Region)
	if o.Store != 0 {
		s += fmt.Sprint(" on ", o.Store)
	}
	if o.Peer != 0 {
		s += fmt.Sprint(" peer ", o.Peer)
	}
	if o.Other != 0 {
		s += fmt.Sprint(" into ", o.Other)
	}
	return s
}

func told(l []api.Order) string {
	var out []string
	for _, o := range l {
		out = append(out, toldOrder(o))
	}
	return strings.Join(out, ", ")
}

// row is what is asked of Decide, and what it answers.
type row struct{ policy, stores, regions, orders string }

// decides holds rows against Decide.
func decides(t *testing.T, rows ...row) {
	t.Helper()
	for _, x := range rows {
		if got := told(Decide(policyOf(x.policy), storesOf(x.stores), viewsOf(x.regions))); got != x.orders {
			t.Errorf("Replicas %s; stores %s; regions %s: %q; want %q", x.policy, x.stores, x.regions, got, x.orders)
		}
	}
}

// dice fall the same way in every run.
func dice(n int) *rand.Rand { return rand.New(rand.NewPCG(17, uint64(n))) }

// shuffled is the list in another order, in new memory.
func shuffled[T any](r *rand.Rand, l []T) []T {
	l = slices.Clone(l)
	r.Shuffle(len(l), func(i, j int) { l[i], l[j] = l[j], l[i] })
	return l
}
