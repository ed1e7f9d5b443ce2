package state

import (
	"bytes"
	"fmt"
	"math"
	"reflect"
	"strconv"
	"strings"
	"testing"

	"regatta/api"
)

func number(s string) uint64 {
	if s == "far" {
		return 1 << 62
	}
	if s == "top" {
		return math.MaxUint64
	}
	n, err := strconv.ParseUint(s, 10, 64)
	if err != nil {
		panic(err)
	}
	return n
}

func count(s string) int {
	n, err := strconv.Atoi(s)
	if err != nil {
		panic(err)
	}
	return n
}

// listOf is the numbers of a text.
func listOf(s string) []uint64 {
	var l []uint64
	for _, w := range strings.Fields(strings.ReplaceAll(s, ",", " ")) {
		l = append(l, number(w))
	}
	return l
}

// key is the bytes of a word: - none, *64 that many bytes k, else the word's own.
func key(s string) []byte {
	if n, ok := strings.CutPrefix(s, "*"); ok {
		return bytes.Repeat([]byte("k"), count(n))
	}
	return []byte(strings.TrimSuffix(s, "-"))
}

func keys(s string) [][]byte {
	var l [][]byte
	for _, w := range strings.Split(s, ",") {
		l = append(l, key(w))
	}
	return l
}

// peers are those of words with commas between: number@store, with ~ a learner.
func peers(s string) []api.Peer {
	var l []api.Peer
	for _, w := range strings.Fields(strings.ReplaceAll(s, ",", " ")) {
		id, store, there := strings.Cut(strings.TrimSuffix(w, "~"), "@")
		p := api.Peer{ID: number(id), Learner: strings.HasSuffix(w, "~")}
		if there {
			p.Store = count(store)
		}
		l = append(l, p)
	}
	return l
}

func epoch(s string) api.Epoch {
	c, v, _ := strings.Cut(s, "/")
	return api.Epoch{Conf: number(c), Version: number(v)}
}

// regionOf is the region of a text: number, Start, End, Conf/Version, peers.
func regionOf(s string) api.Region {
	w := strings.SplitN(s, " ", 5)
	w = append(w, []string{"0", "-", "-", "0/0", ""}[len(w):]...)
	return api.Region{ID: number(w[0]), Start: key(w[1]), End: key(w[2]), Epoch: epoch(w[3]), Peers: peers(w[4])}
}

// confOf is the configuration of a text: Voters|Old|Learners.
func confOf(s string) api.Conf {
	p := append(strings.Split(s, "|"), "", "")
	return api.Conf{Voters: listOf(p[0]), Old: listOf(p[1]), Learners: listOf(p[2])}
}

// mut is the change of a word: a=1 puts, a~ deletes, a! locks.
func mut(w string) api.Mut {
	if k, v, put := strings.Cut(w, "="); put {
		return api.Mut{Kind: api.KindPut, Key: key(k), Value: key(v)}
	}
	if k, lock := strings.CutSuffix(w, "!"); lock {
		return api.Mut{Kind: api.KindLock, Key: key(k)}
	}
	k, gone := strings.CutSuffix(w, "~")
	if !gone {
		panic(w)
	}
	return api.Mut{Kind: api.KindDelete, Key: key(k)}
}

var kinds = map[string]int{
	"prewrite": api.CmdPrewrite, "commit": api.CmdCommit, "rollback": api.CmdRollback, "pess": api.CmdPess, "pessback": api.CmdPessRollback,
	"check": api.CmdCheck, "secondaries": api.CmdSecondaries, "resolve": api.CmdResolve, "floor": api.CmdFloor, "gc": api.CmdGC,
	"split": api.CmdSplit, "prepare": api.CmdPrepare, "back": api.CmdBack, "absorb": api.CmdAbsorb, "peers": api.CmdPeers,
}

// of is the command of a text: its kind (a number, of one without a name), then, in any order, :Conf/Version, @Start,
// at:Commit, for:ForUpdate, max:Max, by:Primary, with:Secondaries, #ID, on:Peers, +async, +one, +force, and its changes or keys.
func of(s string) api.Cmd {
	w := strings.Fields(s)
	c := api.Cmd{Kind: kinds[w[0]]}
	if c.Kind == 0 {
		c.Kind = count(w[0])
	}
	for _, w := range w[1:] {
		name, what, _ := strings.Cut(w, ":")
		switch {
		case w[0] == ':':
			c.Epoch = epoch(what)
		case w[0] == '@':
			c.Start = number(w[1:])
		case w[0] == '#':
			c.ID = number(w[1:])
		case name == "at":
			c.Commit = number(what)
		case name == "for":
			c.ForUpdate = number(what)
		case name == "max":
			c.Max = number(what)
		case name == "by":
			c.Primary = key(what)
		case name == "with":
			c.Secondaries = keys(what)
		case name == "on":
			c.Peers = peers(what)
		case w[0] == '+':
			c.Async, c.One, c.Force = c.Async || w == "+async", c.One || w == "+one", c.Force || w == "+force"
		case strings.ContainsAny(w, "=~!"):
			c.Muts = append(c.Muts, mut(w))
		default:
			c.Keys = append(c.Keys, key(w))
		}
	}
	if c.Primary == nil && len(c.Muts) > 0 {
		c.Primary = c.Muts[0].Key
	}
	if c.Primary == nil && c.Kind == api.CmdPess && len(c.Keys) > 0 {
		c.Primary = c.Keys[0]
	}
	return c
}

func errName(e api.Errno) string {
	names := map[api.Errno]string{
		api.OK: "ok", api.ErrArg: "arg", api.ErrOrder: "order", api.ErrForm: "form", api.ErrEpoch: "epoch", api.ErrRange: "range",
		api.ErrFrozen: "frozen", api.ErrMerge: "merge", api.ErrLocked: "locked", api.ErrConflict: "conflict", api.ErrCommitted: "committed",
		api.ErrRolled: "rolled", api.ErrNoLock: "nolock", api.ErrTooOld: "tooold", api.ErrEarly: "early",
	}
	if s, known := names[e]; known {
		return s
	}
	return e.Error()
}

func toldRegion(r api.Region) string {
	s := fmt.Sprintf("%d [%s, %s) %d/%d:", r.ID, r.Start, r.End, r.Epoch.Conf, r.Epoch.Version)
	return s + toldPeers(r.Peers)
}

func toldPeers(l []api.Peer) string {
	s := ""
	for _, p := range l {
		s += fmt.Sprintf(" %d@%d", p.ID, p.Store)
		if p.Learner {
			s += "~"
		}
	}
	return s
}

// told is a Result as a text: the error, then what is not zero of its fields.
func told(r api.Result) string {
	s := errName(r.Err)
	if len(r.Key) > 0 {
		s += " " + string(r.Key)
	}
	if r.Commit > 0 {
		s += fmt.Sprint(" at:", r.Commit)
	}
	if r.Status != api.TxnNone {
		s += " " + [...]string{api.TxnLocked: "LOCKED", api.TxnCommitted: "COMMITTED", api.TxnRolled: "ROLLED"}[r.Status]
	}
	if !reflect.ValueOf(r.Lock).IsZero() {
		s += " {" + toldLock(r.Lock) + "}"
	}
	if !reflect.ValueOf(r.New).IsZero() {
		s += " " + toldRegion(r.New)
	}
	return s
}

func toldLock(l api.Lock) string {
	s := fmt.Sprintf("%d %s=%s by:%s @%d for:%d min:%d", l.Kind, l.Key, l.Value, l.Primary, l.Start, l.ForUpdate, l.MinCommit)
	if l.Async {
		s += " +async"
	}
	if len(l.Secondaries) > 0 {
		s += " with:" + string(bytes.Join(l.Secondaries, []byte(",")))
	}
	return s
}

// toldImage is floor/gc and the cells of an image as a text.
func toldImage(x api.Image) string {
	var s strings.Builder
	fmt.Fprintf(&s, "%d/%d", x.Floor, x.GC)
	for _, c := range x.Cells {
		s.WriteString(" | " + string(c.Key))
		if c.Locked {
			s.WriteString(" {" + toldLock(c.Lock) + "}")
		} else if !reflect.ValueOf(c.Lock).IsZero() {
			s.WriteString(" {a lock where none is}")
		}
		for _, w := range c.Writes {
			fmt.Fprintf(&s, " %d@%d:%d=%s", w.Kind, w.Start, w.Commit, w.Value)
		}
	}
	return s.String()
}

// tells is all that a state has, but how far it is applied.
func tells(s *State) string {
	return fmt.Sprint(toldRegion(s.Region()), " frozen ", s.Frozen(), " held ", s.Held(), " swallowed ", s.Swallowed(),
		" places", toldPeers(s.Places()), " size ", s.Size(), " image ", toldImage(s.Image()))
}

func toldGet(v []byte, found bool, r api.Result) string {
	switch {
	case r.Err != api.OK && !found && len(v) == 0:
		return told(r)
	case r.Err == api.OK && found && told(r) == "ok":
		return "=" + string(v)
	case r.Err == api.OK && !found && len(v) == 0 && told(r) == "ok":
		return "none"
	}
	return fmt.Sprintf("%q, %t, %s", v, found, told(r))
}

func toldPairs(l []api.Pair, r api.Result) string {
	s := told(r)
	for _, p := range l {
		s += " " + string(p.Key) + "=" + string(p.Value)
		if p.Gone {
			s += "!gone"
		}
	}
	return s
}

func toldLocks(l []api.Lock, r api.Result) string {
	s := told(r)
	for _, x := range l {
		s += " {" + toldLock(x) + "}"
	}
	return s
}

func want(t *testing.T, what string, got, e api.Errno) {
	t.Helper()
	if got != e {
		t.Errorf("%s: error %d; want %d", what, got, e)
	}
}

func wantText(t *testing.T, what, got, is string) {
	t.Helper()
	if got != is {
		t.Errorf("%s: %s; want %s", what, got, is)
	}
}

// fresh is the state of the region of a text, without data.
func fresh(t *testing.T, s string) *State {
	t.Helper()
	x, e := New(regionOf(s), api.Image{})
	if x == nil || e != api.OK {
		t.Fatalf("New(%s): error %d", s, e)
	}
	return x
}

// copyOf is another state that is the same.
func copyOf(t *testing.T, s *State) *State {
	t.Helper()
	b := s.Export()
	o, e := Import(b)
	if e != api.OK {
		t.Fatalf("Import of what a state tells: error %d of %s", e, tells(s))
	}
	if tells(o) != tells(s) || o.Applied() != s.Applied() || !bytes.Equal(o.Export(), b) {
		t.Fatalf("Import of what %s tells: %s", tells(s), tells(o))
	}
	return o
}

// apply applies a command at the next index, and looks at what holds of each one: a refused one changes nothing but Applied,
// and a state that is the same comes to the same by what is read of the command's bytes (P13.5, P13.6).
func apply(t *testing.T, s *State, c api.Cmd) (api.Result, *State) {
	t.Helper()
	was, index, twin := tells(s), s.Applied()+1, copyOf(t, s)
	r, right, e := s.Apply(index, c)
	if e != api.OK || s.Applied() != index {
		t.Errorf("Apply(%d, %+v): error %d, applied %d", index, c, e, s.Applied())
	}
	if r.Err != api.OK && tells(s) != was {
		t.Errorf("%+v is refused (%s), and changes %s to %s", c, told(r), was, tells(s))
	}
	if split := r.Err == api.OK && c.Kind == api.CmdSplit; split != (right != nil) {
		t.Errorf("%+v answers a state: %t", c, right != nil)
	}
	again, e := DecodeCmd(EncodeCmd(c))
	want(t, "DecodeCmd of EncodeCmd", e, api.OK)
	r2, right2, e := twin.Apply(index, again)
	if e != api.OK || told(r2) != told(r) || !bytes.Equal(twin.Export(), s.Export()) {
		t.Errorf("%+v at a state that is the same: %s, and %s; want %s, and %s", c, told(r2), tells(twin), told(r), tells(s))
	}
	if right != nil && (right2 == nil || !bytes.Equal(right.Export(), right2.Export())) {
		t.Errorf("%+v at a state that is the same: the right state is another one", c)
	}
	return r, right
}

// read answers the calls of a script that are no commands.
func read(t *testing.T, s *State, call string) (string, bool) {
	t.Helper()
	w := append(strings.Fields(call), "", "", "", "", "")
	switch w[0] {
	case "get":
		return toldGet(s.Get(key(w[1]), number(w[2]), epoch(w[3]))), true
	case "scan":
		return toldPairs(s.Scan(key(w[1]), key(w[2]), count(w[3]), number(w[4]), epoch(w[5]))), true
	case "locks":
		return toldLocks(s.Locks(key(w[1]), key(w[2]), count(w[3]), number(w[4]), epoch(w[5]))), true
	case "conf":
		return errName(s.Conf(s.Applied()+1, confOf(w[1]))), true
	case "skip":
		return errName(s.Skip(s.Applied() + 1)), true
	case "region":
		return toldRegion(s.Region()), true
	case "frozen":
		return fmt.Sprint(s.Frozen()), true
	case "held":
		return fmt.Sprint(s.Held()), true
	case "swallowed":
		return fmt.Sprint(s.Swallowed()), true
	case "places":
		return strings.TrimSpace(toldPeers(s.Places())), true
	case "image":
		return toldImage(s.Image()), true
	case "size":
		return fmt.Sprint(s.Size()), true
	}
	return "", false
}

// script does a text's calls, one a line, and holds what each answers against what stands behind its arrow; the last state that a split answered.
func script(t *testing.T, s *State, text string) *State {
	t.Helper()
	var right *State
	for _, line := range strings.Split(text, "\n") {
		call, is, ok := strings.Cut(strings.TrimSpace(line), "->")
		if strings.TrimSpace(line) == "" || strings.HasPrefix(call, "//") {
			continue
		}
		if !ok {
			panic(line)
		}
		call, is = strings.TrimSpace(call), strings.TrimSpace(is)
		got, isRead := read(t, s, call)
		if !isRead {
			r, x := apply(t, s, of(call))
			if got = told(r); x != nil {
				right = x
			}
		}
		if got != is {
			t.Errorf("%s: %s; want %s", call, got, is)
		}
	}
	return right
}
