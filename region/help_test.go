package region

import (
	"bytes"
	"encoding/hex"
	"fmt"
	"slices"
	"strconv"
	"strings"
	"testing"

	"regatta/api"
)

const top = 1<<64 - 1

func want(t *testing.T, what string, got, e api.Errno) {
	t.Helper()
	if got != e {
		t.Errorf("%s: error %d; want %d", what, got, e)
	}
}

func wantIs(t *testing.T, what string, got, is bool) {
	t.Helper()
	if got != is {
		t.Errorf("%s: %t; want %t", what, got, is)
	}
}

// wantRegion: a call answered the region of the text, and OK.
func wantRegion(t *testing.T, what string, got api.Region, e api.Errno, s string) {
	t.Helper()
	if told(got) != told(of(s)) || e != api.OK {
		t.Errorf("%s: %s, error %d; want %s", what, told(got), e, told(of(s)))
	}
}

// wantNone: a call answered this error, and nothing beside it.
func wantNone(t *testing.T, what string, got api.Region, e, is api.Errno) {
	t.Helper()
	if e != is || told(got) != told(api.Region{}) {
		t.Errorf("%s: %s, error %d; want nothing, error %d", what, told(got), e, is)
	}
}

func wantBytes(t *testing.T, what string, got []byte, h string) {
	t.Helper()
	if !bytes.Equal(got, raw(t, h)) {
		t.Errorf("%s: %x; want %s", what, got, h)
	}
}

// raw is the bytes of a hexadecimal text with gaps.
func raw(t *testing.T, h string) []byte {
	t.Helper()
	b, err := hex.DecodeString(strings.ReplaceAll(h, " ", ""))
	if err != nil {
		t.Fatal(err)
	}
	return b
}

func number(s string) uint64 {
	n, err := strconv.ParseUint(s, 10, 64)
	if err != nil {
		panic(err)
	}
	return n
}

// list is the numbers of a text.
func list(s string) []uint64 {
	var l []uint64
	for _, w := range strings.Fields(s) {
		l = append(l, number(w))
	}
	return l
}

// key is the bytes of a word: - none, *64 that many bytes k, else the word's own.
func key(s string) []byte {
	if n, ok := strings.CutPrefix(s, "*"); ok {
		return bytes.Repeat([]byte("k"), int(number(n)))
	}
	return []byte(strings.TrimSuffix(s, "-"))
}

// peers are those of words: number@store, with ~ a learner.
func peers(s string) []api.Peer {
	var l []api.Peer
	for _, w := range strings.Fields(s) {
		id, store, _ := strings.Cut(strings.TrimSuffix(w, "~"), "@")
		n, err := strconv.Atoi(store)
		if err != nil {
			panic(err)
		}
		l = append(l, api.Peer{ID: number(id), Store: n, Learner: strings.HasSuffix(w, "~")})
	}
	return l
}

func epoch(s string) api.Epoch {
	c, v, _ := strings.Cut(s, "/")
	return api.Epoch{Conf: number(c), Version: number(v)}
}

// of is the region of a text: number, Start, End, Conf/Version, peers; what is left out is nothing.
func of(s string) api.Region {
	w := strings.SplitN(s, " ", 5)
	w = append(w, []string{"0", "-", "-", "0/0", ""}[len(w):]...)
	return api.Region{ID: number(w[0]), Start: key(w[1]), End: key(w[2]), Epoch: epoch(w[3]), Peers: peers(w[4])}
}

// all are the regions of a text, with ; between.
func all(s string) []api.Region {
	var l []api.Region
	for _, w := range strings.Split(s, ";") {
		if w = strings.TrimSpace(w); w != "" {
			l = append(l, of(w))
		}
	}
	return l
}

// confOf is the configuration of a text: Voters | Old | Learners.
func confOf(s string) api.Conf {
	p := append(strings.Split(s, "|"), "", "")
	return api.Conf{Voters: list(p[0]), Old: list(p[1]), Learners: list(p[2])}
}

func told(r api.Region) string {
	return fmt.Sprintf("%d [%q, %q) %d/%d: %v", r.ID, r.Start, r.End, r.Epoch.Conf, r.Epoch.Version, r.Peers)
}

// words are the texts of up to so many of these letters.
func words(letters string, length int) []string {
	l := []string{""}
	for from := 0; length > 0; length-- {
		to := len(l)
		for _, w := range l[from:to] {
			for _, c := range letters {
				l = append(l, w+string(c))
			}
		}
		from = to
	}
	return l
}

// spansOver are the regions that have these texts as Start and End, whatever comes of it.
func spansOver(texts []string) []api.Region {
	var l []api.Region
	for _, a := range texts {
		for _, b := range texts {
			l = append(l, api.Region{ID: uint64(len(l) + 1), Start: []byte(a), End: []byte(b)})
		}
	}
	return l
}

// lies is Covers by the words of the chapter, of texts.
func lies(r api.Region, text string) bool {
	return text >= string(r.Start) && (len(r.End) == 0 || text < string(r.End))
}

// counted is how many of the regions the text lies in.
func counted(l []api.Region, text string) int {
	n := 0
	for _, r := range l {
		if lies(r, text) {
			n++
		}
	}
	return n
}

// in is a list of its own with the regions put in the place of those from..to.
func in(l []api.Region, from, to int, r ...api.Region) []api.Region {
	return slices.Concat(l[:from], r, l[to:])
}
