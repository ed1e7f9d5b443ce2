package vault

import (
	"fmt"
	"strconv"
	"strings"
	"testing"

	"regatta/api"
	"regatta/disk"
	"regatta/engine"
)

const greatest = 1<<64 - 1

func want(t *testing.T, what string, got, code api.Errno) {
	t.Helper()
	if got != code {
		t.Errorf("%s: error %d; want %d", what, got, code)
	}
}

func wantText(t *testing.T, what, got, is string) {
	t.Helper()
	if got != is {
		t.Errorf("%s:\n%s; want\n%s", what, brief(got), brief(is))
	}
}

// brief cuts off what is too long to be read.
func brief(s string) string {
	if len(s) > 400 {
		return fmt.Sprintf("%s .. (%d bytes)", s[:400], len(s))
	}
	return s
}

// list is the numbers of a text.
func list(s string) []uint64 {
	var l []uint64
	for _, w := range strings.Fields(s) {
		n, err := strconv.ParseUint(w, 10, 64)
		if err != nil {
			panic(err)
		}
		l = append(l, n)
	}
	return l
}

// of is the configuration of a text: Voters | Old | Learners.
func of(s string) api.Conf {
	p := append(strings.Split(s, "|"), "", "")
	return api.Conf{Voters: list(p[0]), Old: list(p[1]), Learners: list(p[2])}
}

// entry is the one of a text: term, then nothing, =data or (configuration).
func entry(index uint64, s string) api.Entry {
	term, data, isData := strings.Cut(s, "=")
	if isData {
		return api.Entry{Kind: api.EntryData, Term: list(term)[0], Index: index, Data: []byte(data)}
	}
	term, c, isConf := strings.Cut(strings.ReplaceAll(strings.TrimSuffix(s, ")"), ",", " "), "(")
	if isConf {
		return api.Entry{Kind: api.EntryConf, Term: list(term)[0], Index: index, Conf: of(c)}
	}
	return api.Entry{Kind: api.EntryNone, Term: list(term)[0], Index: index}
}

// entries are those of a text from an index on: "2 2=x 2(1,2|1)".
func entries(index uint64, s string) []api.Entry {
	var l []api.Entry
	for i, w := range strings.Fields(s) {
		l = append(l, entry(index+uint64(i), w))
	}
	return l
}

func textConf(c api.Conf) string {
	return fmt.Sprint(c.Voters, c.Old, c.Learners)
}

// text tells all of an entry, what does not count of its kind too.
func text(x api.Entry) string {
	return fmt.Sprintf("%d:%d kind %d %q %s", x.Index, x.Term, x.Kind, x.Data, textConf(x.Conf))
}

// textSaved tells all of it.
func textSaved(s api.Saved) string {
	l := []string{fmt.Sprint("hard ", s.Hard), fmt.Sprintf("snap %d:%d %s %q", s.Snap.Index, s.Snap.Term, textConf(s.Snap.Conf), s.Snap.Data)}
	for _, x := range s.Entries {
		l = append(l, text(x))
	}
	return strings.Join(l, "\n")
}

func hard(term, vote, commit uint64) api.Hard {
	return api.Hard{Term: term, Vote: vote, Commit: commit}
}

func snap(index, term uint64, c, data string) api.Snap {
	return api.Snap{Index: index, Term: term, Conf: of(c), Data: []byte(data)}
}

func opened(t *testing.T, d *disk.Disk) *engine.Engine {
	t.Helper()
	e, code := engine.Open(d)
	if code != api.OK {
		t.Fatalf("engine.Open: error %d", code)
	}
	return e
}

func fresh(t *testing.T) *engine.Engine {
	t.Helper()
	return opened(t, disk.New())
}

// over is an engine that has something, and is over.
func over(t *testing.T) *engine.Engine {
	t.Helper()
	d := disk.New()
	e := opened(t, d)
	write(t, e, Save(7, api.Ready{Hard: hard(1, 0, 0)}), Bury(7, 3))
	d.Arm(0)
	want(t, "Write to a disk that dies", e.Write(Bury(7, 4)), api.ErrDead)
	return e
}

// write: each batch is answered OK.
func write(t *testing.T, e *engine.Engine, batches ...[]api.Op) {
	t.Helper()
	for _, b := range batches {
		if code := e.Write(b); code != api.OK {
			t.Fatalf("Write of %d Ops: error %d", len(b), code)
		}
	}
}

// holding is a new engine with what these batches make.
func holding(t *testing.T, batches ...[]api.Op) *engine.Engine {
	t.Helper()
	e := fresh(t)
	write(t, e, batches...)
	return e
}

// all is all that lies in the engine.
func all(t *testing.T, e *engine.Engine) []api.Pair {
	t.Helper()
	l, code := e.Scan(nil, nil, 1<<30)
	want(t, "Scan of all", code, api.OK)
	return l
}

func textPairs(l []api.Pair) string {
	var out []string
	for _, p := range l {
		out = append(out, fmt.Sprintf("%x=%x", p.Key, p.Value))
	}
	return strings.Join(out, "\n")
}

// loads: just this is kept of the group.
func loads(t *testing.T, what string, e *engine.Engine, group uint64, s api.Saved) {
	t.Helper()
	got, there, code := Load(e, group)
	if !there || code != api.OK {
		t.Errorf("%s: Load(%d): %t, error %d", what, group, there, code)
	}
	wantText(t, fmt.Sprintf("%s: Load(%d)", what, group), textSaved(got), textSaved(s))
}

// lacks: Load answers nothing but this error.
func lacks(t *testing.T, what string, e *engine.Engine, group uint64, code api.Errno) {
	t.Helper()
	s, there, got := Load(e, group)
	if there || got != code || textSaved(s) != textSaved(api.Saved{}) {
		t.Errorf("%s: Load(%d): %t, error %d, %s; want nothing, error %d", what, group, there, got, brief(textSaved(s)), code)
	}
}

func tells(t *testing.T, what string, e *engine.Engine, groups ...uint64) {
	t.Helper()
	got, code := Groups(e)
	want(t, what+": Groups", code, api.OK)
	wantText(t, what+": Groups", fmt.Sprint(got), fmt.Sprint(groups))
}

func buried(t *testing.T, what string, e *engine.Engine, group, peer uint64) {
	t.Helper()
	if got, code := Buried(e, group); got != peer || code != api.OK {
		t.Errorf("%s: Buried(%d): %d, error %d; want %d", what, group, got, code, peer)
	}
}
