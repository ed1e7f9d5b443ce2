package cache

import (
	"bytes"
	"fmt"
	"slices"
	"strconv"
	"strings"
	"testing"

	"regatta/api"
)

func number(s string) uint64 {
	n, err := strconv.ParseUint(s, 10, 64)
	if err != nil {
		panic(err)
	}
	return n
}

// key is the bytes of a word: - none, *64 that many bytes k, else the word's own.
func key(s string) []byte {
	if n, ok := strings.CutPrefix(s, "*"); ok {
		return bytes.Repeat([]byte("k"), int(number(n)))
	}
	return []byte(strings.TrimSuffix(s, "-"))
}

// keys are those of words.
func keys(s string) [][]byte {
	var l [][]byte
	for _, w := range strings.Fields(s) {
		l = append(l, key(w))
	}
	return l
}

// peers are those of words: number@store, with ~ a learner.
func peers(words []string) []api.Peer {
	var l []api.Peer
	for _, w := range words {
		id, store, _ := strings.Cut(strings.TrimSuffix(w, "~"), "@")
		n, err := strconv.Atoi(store)
		if err != nil {
			panic(err)
		}
		l = append(l, api.Peer{ID: number(id), Store: n, Learner: strings.HasSuffix(w, "~")})
	}
	return l
}

// of is the region of a text: number, Start, End, Conf/Version, peers; where none are told, 1, 2 and 3 on the stores of these numbers and a learner on 4.
func of(s string) api.Region {
	w := strings.Fields(s)
	if len(w) == 4 {
		w = append(w, "1@1", "2@2", "3@3", "4@4~")
	}
	conf, version, _ := strings.Cut(w[3], "/")
	return api.Region{ID: number(w[0]), Start: key(w[1]), End: key(w[2]),
		Epoch: api.Epoch{Conf: number(conf), Version: number(version)}, Peers: peers(w[4:])}
}

func told(r api.Region) string {
	return fmt.Sprintf("%d [%q, %q) %d/%d %v", r.ID, r.Start, r.End, r.Epoch.Conf, r.Epoch.Version, r.Peers)
}

// all tells all that a cache has: the regions with their leaders.
func all(c *Cache) string {
	s := ""
	for _, r := range c.All() {
		_, leader, _ := c.Find(r.Start)
		s += fmt.Sprintf("%s, leader %d\n", told(r), leader)
	}
	return s
}

// with is a cache that was told regions, each with a leader behind =.
func with(t *testing.T, l ...string) *Cache {
	t.Helper()
	c := New()
	for _, s := range l {
		put(t, c, s, true)
	}
	return c
}

// put: Put of the region and leader of a text (region=leader) answers that; where false, nothing changes.
func put(t *testing.T, c *Cache, s string, is bool) {
	t.Helper()
	r, leader, _ := strings.Cut(s, "=")
	n, err := strconv.Atoi(leader)
	if err != nil {
		t.Fatal(err)
	}
	was := all(c)
	if got := c.Put(of(r), n); got != is {
		t.Errorf("Put(%s): %t; want %t", s, got, is)
	}
	if now := all(c); !is && now != was {
		t.Errorf("Put(%s) was refused and has changed\n%sto\n%s", s, was, now)
	}
}

// wantFind: Find of a key tells that region (its number) and leader; "none": none.
func wantFind(t *testing.T, c *Cache, k, is string) {
	t.Helper()
	r, leader, there := c.Find(key(k))
	got := fmt.Sprint(r.ID, "=", leader)
	if !there {
		got = "none"
		if told(r) != told(api.Region{}) || leader != 0 {
			t.Errorf("Find(%s): false with %s, leader %d", k, told(r), leader)
		}
	}
	if got != is {
		t.Errorf("Find(%s): %s; want %s", k, got, is)
	}
}

// wantAll: those regions are remembered, told with their numbers alone.
func wantAll(t *testing.T, c *Cache, is ...uint64) {
	t.Helper()
	var got []uint64
	for _, r := range c.All() {
		got = append(got, r.ID)
	}
	if !slices.Equal(got, is) {
		t.Errorf("All: %d; want %d", got, is)
	}
}

func wantIs(t *testing.T, what string, got, is bool) {
	t.Helper()
	if got != is {
		t.Errorf("%s: %t; want %t", what, got, is)
	}
}

// wantGroup: Group of the keys, pieces with | between.
func wantGroup(t *testing.T, c *Cache, s, is string) {
	t.Helper()
	var got []string
	for _, piece := range c.Group(keys(s)) {
		got = append(got, string(bytes.Join(piece, []byte(" "))))
	}
	if strings.Join(got, " | ") != is {
		t.Errorf("Group(%s): %s; want %s", s, strings.Join(got, " | "), is)
	}
}
