package pd

import (
	"bytes"
	"fmt"
	"math"
	"slices"
	"strconv"
	"strings"
	"testing"

	"regatta/api"
)

// number reads a number: top is the greatest one, and top-3 one that is 3 below it.
func number(s string) uint64 {
	below, top := strings.CutPrefix(s, "top")
	if top && below == "" {
		return math.MaxUint64
	}
	n, err := strconv.ParseUint(strings.TrimPrefix(below, "-"), 10, 64)
	if err != nil {
		panic(err)
	}
	if top {
		return math.MaxUint64 - n
	}
	return n
}

func count(s string) int {
	n, err := strconv.Atoi(s)
	if err != nil {
		panic(err)
	}
	return n
}

// key is the bytes of a word: - none, *64 that many bytes k, else the word's own.
func key(s string) []byte {
	if n, ok := strings.CutPrefix(s, "*"); ok {
		return bytes.Repeat([]byte("k"), count(n))
	}
	return []byte(strings.TrimSuffix(s, "-"))
}

// peers reads 11@1,12@2~: numbers, stores, and who is a learner.
func peers(s string) []api.Peer {
	var l []api.Peer
	for _, w := range strings.Split(s, ",") {
		id, store, _ := strings.Cut(strings.TrimSuffix(w, "~"), "@")
		l = append(l, api.Peer{ID: number(id), Store: count(store), Learner: strings.HasSuffix(w, "~")})
	}
	return l
}

// regionOf reads: 7 m - 1/2 70@1: number, Start, End, Conf/Version, peers (none: one of number 70, on store 1).
func regionOf(s string) api.Region {
	w := strings.Fields(s)
	c, v, _ := strings.Cut(w[3], "/")
	r := api.Region{ID: number(w[0]), Start: key(w[1]), End: key(w[2]), Epoch: api.Epoch{Conf: number(c), Version: number(v)}}
	r.Peers = []api.Peer{{ID: 70, Store: 1}}
	if len(w) > 4 {
		r.Peers = peers(w[4])
	}
	return r
}

// of reads a command: its kind's word, and what counts of it.
func of(s string) api.PdCmd {
	word, rest, _ := strings.Cut(s, " ")
	w := strings.Fields(rest)
	switch word {
	case "id":
		return api.PdCmd{Kind: api.PdID, N: number(w[0])}
	case "window":
		return api.PdCmd{Kind: api.PdWindow, TS: number(w[0])}
	case "clock":
		return api.PdCmd{Kind: api.PdClock}
	case "store":
		return api.PdCmd{Kind: api.PdStore, Store: count(w[0])}
	case "region":
		return api.PdCmd{Kind: api.PdRegion, Region: regionOf(rest)}
	case "register":
		return api.PdCmd{Kind: api.PdRegister, TS: number(w[0]), TTL: number(w[1])}
	case "release":
		return api.PdCmd{Kind: api.PdRelease, TS: number(w[0])}
	case "safe":
		return api.PdCmd{Kind: api.PdSafe, TS: number(w[0])}
	case "merge": // merge 9: 7 m - 1/2 into 1 - m 1/2
		id, both, _ := strings.Cut(rest, ": ")
		source, target, _ := strings.Cut(both, " into ")
		return api.PdCmd{Kind: api.PdMerge, N: number(id), Region: regionOf(source), Other: regionOf(target)}
	case "decide":
		return api.PdCmd{Kind: api.PdDecide, N: number(w[0]), Commit: w[1] == "commit"}
	case "kind":
		return api.PdCmd{Kind: count(w[0])}
	}
	panic(s)
}

func errName(e api.Errno) string {
	switch e {
	case api.OK:
		return "ok"
	case api.ErrArg:
		return "arg"
	case api.ErrFull:
		return "full"
	case api.ErrRange:
		return "range"
	case api.ErrTooOld:
		return "old"
	case api.ErrStale:
		return "stale"
	case api.ErrKnown:
		return "known"
	}
	return e.Error()
}

// told is a result as a text: the error, and what is not 0 beside it.
func told(r api.PdResult) string {
	s := errName(r.Err)
	if r.N != 0 {
		s += " " + strconv.FormatUint(r.N, 10)
	}
	return s + [...]string{"", " open", " commit", " back"}[r.Status]
}

func toldRegion(r api.Region) string {
	s := fmt.Sprintf("%d [%s, %s) %d/%d:", r.ID, r.Start, r.End, r.Epoch.Conf, r.Epoch.Version)
	for _, p := range r.Peers {
		s += fmt.Sprintf(" %d@%d%s", p.ID, p.Store, map[bool]string{true: "~"}[p.Learner])
	}
	return s
}

func toldMerge(source, target api.Region, status int) string {
	return fmt.Sprint(toldRegion(source), " into ", toldRegion(target), " is ", status)
}

// tells is all that a driver tells without being asked for a key or a merge.
func tells(p *Driver) string {
	s := fmt.Sprint("limit ", p.Limit(), " clock ", p.Clock(), " safe ", p.Safe(), " registered ", p.Registered(), " stores")
	for w := range min(p.Clock(), 9) + 2 {
		s += fmt.Sprint(" ", p.Stores(w))
	}
	for _, r := range p.Regions() {
		s += " | " + toldRegion(r)
	}
	return s
}

func want[T comparable](t *testing.T, what string, got, want T) {
	t.Helper()
	if got != want {
		t.Errorf("%s: %v; want %v", what, got, want)
	}
}

// do does a command. One that is refused changes nothing (R6).
func do(t *testing.T, p *Driver, c api.PdCmd) api.PdResult {
	t.Helper()
	was, text := p.Export(), tells(p)
	r := p.Do(c)
	if r.Err != api.OK {
		if r != (api.PdResult{Err: r.Err}) {
			t.Errorf("Do(%+v): %+v beside an error", c, r)
		}
		if !bytes.Equal(p.Export(), was) || tells(p) != text {
			t.Errorf("Do(%+v) is refused, and changes %s to %s", c, text, tells(p))
		}
	}
	return r
}

// script does commands, one a line, and holds their answers against what stands behind the arrows.
func script(t *testing.T, p *Driver, lines string) {
	t.Helper()
	for _, line := range strings.Split(lines, "\n") {
		if line = strings.TrimSpace(line); line == "" {
			continue
		}
		text, answer, _ := strings.Cut(line, " -> ")
		want(t, text, told(do(t, p, of(text))), answer)
	}
}

func wantRegistered(t *testing.T, p *Driver, ts ...uint64) {
	t.Helper()
	if l := p.Registered(); !slices.Equal(l, ts) {
		t.Errorf("Registered: %v; want %v", l, ts)
	}
}

func wantStores(t *testing.T, p *Driver, within uint64, stores ...int) {
	t.Helper()
	if l := p.Stores(within); !slices.Equal(l, stores) {
		t.Errorf("Stores(%d): %v; want %v", within, l, stores)
	}
}

// wantRegions: these are known, in this order.
func wantRegions(t *testing.T, p *Driver, regions ...string) {
	t.Helper()
	var l, texts []string
	for _, r := range p.Regions() {
		l = append(l, toldRegion(r))
	}
	for _, s := range regions {
		texts = append(texts, toldRegion(regionOf(s)))
	}
	want(t, "Regions", strings.Join(l, " | "), strings.Join(texts, " | "))
}

// wantRegion: that region covers the key; 0: none does.
func wantRegion(t *testing.T, p *Driver, k string, id uint64) {
	t.Helper()
	r, ok := p.Region(key(k))
	if r.ID != id || ok != (id != 0) || !ok && toldRegion(r) != toldRegion(api.Region{}) {
		t.Errorf("Region(%s): %s, %t; want %d", k, toldRegion(r), ok, id)
	}
}

// copyOf is a driver that is read of the bytes of this one.
func copyOf(t *testing.T, p *Driver) *Driver {
	t.Helper()
	b := p.Export()
	o, e := Import(b)
	if e != api.OK {
		t.Fatalf("Import of what was exported: error %d; %s", e, tells(p))
	}
	if !bytes.Equal(o.Export(), b) || tells(o) != tells(p) {
		t.Errorf("Import makes %s of %s", tells(o), tells(p))
	}
	return o
}
