package mvcc

import (
	"bytes"
	"fmt"
	"reflect"
	"strconv"
	"strings"
	"testing"

	"regatta/api"
)

// far is the first number that is no time any more.
const far = 1 << 62

func number(s string) uint64 {
	if s == "far" {
		return far
	}
	if s == "top" {
		return far - 1
	}
	n, err := strconv.ParseUint(s, 10, 64)
	if err != nil {
		panic(err)
	}
	return n
}

// key is the bytes of a word: - none, *64 that many bytes k, else the word's own.
func key(s string) []byte {
	if n, ok := strings.CutPrefix(s, "*"); ok {
		return bytes.Repeat([]byte("k"), int(number(n)))
	}
	return []byte(strings.TrimSuffix(s, "-"))
}

// keys are those of words with commas between.
func keys(s string) [][]byte {
	var l [][]byte
	for _, w := range strings.Split(s, ",") {
		l = append(l, key(w))
	}
	return l
}

// mut is the change of a word: a=1 puts, a= puts nothing, a~ deletes, a! locks; with ^ behind it is held.
func mut(w string) api.Mut {
	w, held := strings.CutSuffix(w, "^")
	if k, v, put := strings.Cut(w, "="); put {
		return api.Mut{Kind: api.KindPut, Key: key(k), Value: key(v), Held: held}
	}
	if k, lock := strings.CutSuffix(w, "!"); lock {
		return api.Mut{Kind: api.KindLock, Key: key(k), Held: held}
	}
	k, gone := strings.CutSuffix(w, "~")
	if !gone {
		panic(w)
	}
	return api.Mut{Kind: api.KindDelete, Key: key(k), Held: held}
}

var kinds = map[string]int{
	"prewrite": api.CmdPrewrite, "commit": api.CmdCommit, "rollback": api.CmdRollback, "pess": api.CmdPess, "back": api.CmdPessRollback,
	"check": api.CmdCheck, "secondaries": api.CmdSecondaries, "resolve": api.CmdResolve, "floor": api.CmdFloor, "gc": api.CmdGC,
}

// of is the command of a text: its kind, then, in any order, @Start, at:Commit, for:ForUpdate, max:Max, by:Primary,
// with:Secondaries, +async, +one, +force, and its changes or keys. A prewrite and a pess without by: have the first key as Primary.
func of(s string) api.Cmd {
	w := strings.Fields(s)
	c := api.Cmd{Kind: kinds[w[0]]}
	if c.Kind == 0 {
		panic(s)
	}
	for _, w := range w[1:] {
		name, what, _ := strings.Cut(w, ":")
		switch {
		case w[0] == '@':
			c.Start = number(w[1:])
		case name == "at":
			c.Commit = number(what)
		case name == "for":
			c.ForUpdate = number(what)
		case name == "max":
			c.Max = number(what)
		case name == "by":
			c.Primary = key(what)
		case name == "with":
			c.Secondaries = keys(what)
		case w[0] == '+':
			c.Async, c.One, c.Force = c.Async || w == "+async", c.One || w == "+one", c.Force || w == "+force"
		case c.Kind == api.CmdPrewrite:
			c.Muts = append(c.Muts, mut(w))
		default:
			c.Keys = append(c.Keys, key(w))
		}
	}
	if c.Primary == nil && len(c.Muts) > 0 {
		c.Primary = c.Muts[0].Key
	}
	if c.Primary == nil && c.Kind == api.CmdPess && len(c.Keys) > 0 {
		c.Primary = c.Keys[0]
	}
	return c
}

func errName(e api.Errno) string {
	names := map[api.Errno]string{
		api.OK: "ok", api.ErrArg: "arg", api.ErrLocked: "locked", api.ErrConflict: "conflict", api.ErrCommitted: "committed",
		api.ErrRolled: "rolled", api.ErrNoLock: "nolock", api.ErrTooOld: "tooold", api.ErrEarly: "early",
	}
	if s, known := names[e]; known {
		return s
	}
	return e.Error()
}

// told is a Result as a text: the error, then what is not zero of its fields.
func told(r api.Result) string {
	s := errName(r.Err)
	if len(r.Key) > 0 {
		s += " " + string(r.Key)
	}
	if r.Commit > 0 {
		s += fmt.Sprint(" at:", r.Commit)
	}
	if r.Status != api.TxnNone {
		s += " " + [...]string{api.TxnLocked: "LOCKED", api.TxnCommitted: "COMMITTED", api.TxnRolled: "ROLLED"}[r.Status]
	}
	if !reflect.ValueOf(r.Lock).IsZero() {
		s += " {" + toldLock(r.Lock) + "}"
	}
	if !reflect.ValueOf(r.New).IsZero() {
		s += fmt.Sprint(" ", r.New)
	}
	return s
}

var kindNames = [...]string{api.KindPut: "put", api.KindDelete: "delete", api.KindLock: "lock", api.KindPess: "pess", api.KindRollback: "rolled"}

func toldLock(l api.Lock) string {
	s := fmt.Sprintf("%s %s", kindNames[l.Kind], l.Key)
	if l.Kind == api.KindPut || len(l.Value) > 0 {
		s += "=" + string(l.Value)
	}
	s += fmt.Sprintf(" by:%s @%d", l.Primary, l.Start)
	if l.ForUpdate > 0 {
		s += fmt.Sprint(" for:", l.ForUpdate)
	}
	s += fmt.Sprint(" min:", l.MinCommit)
	if l.Async {
		s += " +async"
	}
	if len(l.Secondaries) > 0 {
		s += " with:" + string(bytes.Join(l.Secondaries, []byte(",")))
	}
	return s
}

func toldWrite(w api.Write) string {
	if w.Kind == api.KindRollback && w.Commit == w.Start && len(w.Value) == 0 {
		return fmt.Sprint("rolled@", w.Start)
	}
	s := fmt.Sprintf("%s@%d:%d", kindNames[w.Kind], w.Start, w.Commit)
	if w.Kind == api.KindPut || len(w.Value) > 0 {
		s += "=" + string(w.Value)
	}
	return s
}

// toldImage is floor/gc and the cells of an image as a text.
func toldImage(x api.Image) string {
	var s strings.Builder
	fmt.Fprintf(&s, "%d/%d", x.Floor, x.GC)
	for _, c := range x.Cells {
		s.WriteString(" | " + string(c.Key))
		if c.Locked {
			s.WriteString(" {" + toldLock(c.Lock) + "}")
		} else if !reflect.ValueOf(c.Lock).IsZero() {
			s.WriteString(" {a lock where none is}")
		}
		for _, w := range c.Writes {
			s.WriteString(" " + toldWrite(w))
		}
	}
	return s.String()
}

func image(s *Store) string { return toldImage(s.Image()) }

func toldPairs(l []api.Pair) string {
	s := []string{"ok"}
	for _, p := range l {
		w := string(p.Key) + "=" + string(p.Value)
		if p.Gone {
			w += "!gone"
		}
		s = append(s, w)
	}
	return strings.Join(s, " ")
}

// read answers the calls of a script that are no commands: get KEY TS, scan FROM TO LIMIT TS, locks FROM TO LIMIT TS, image, size.
func read(s *Store, call string) (string, bool) {
	w := append(strings.Fields(call), "", "", "", "")
	switch w[0] {
	case "get":
		return toldGet(s.Get(key(w[1]), number(w[2]))), true
	case "scan":
		l, r := s.Scan(key(w[1]), key(w[2]), count(w[3]), number(w[4]))
		if r.Err != api.OK {
			return told(r) + strings.TrimPrefix(toldPairs(l), "ok"), true
		}
		return toldPairs(l), true
	case "locks":
		return toldLocks(s.Locks(key(w[1]), key(w[2]), count(w[3]), number(w[4]))), true
	case "image":
		return image(s), true
	case "size":
		return strconv.Itoa(s.Size()), true
	}
	return "", false
}

func toldGet(v []byte, found bool, r api.Result) string {
	switch {
	case r.Err != api.OK && (found || len(v) > 0):
		return told(r) + " and a value"
	case r.Err != api.OK:
		return told(r)
	case told(r) != "ok":
		return "found, and " + told(r)
	case found:
		return "=" + string(v)
	case len(v) > 0:
		return "not found, and a value"
	}
	return "none"
}

func toldLocks(l []api.Lock) string {
	s := []string{}
	for _, x := range l {
		s = append(s, "{"+toldLock(x)+"}")
	}
	return strings.Join(s, " ")
}

func count(s string) int {
	n, err := strconv.Atoi(s)
	if err != nil {
		panic(err)
	}
	return n
}

// copyOf is another store with the same image.
func copyOf(t *testing.T, s *Store) *Store {
	t.Helper()
	x := s.Image()
	o, e := Load(x)
	if e != api.OK {
		t.Fatalf("Load of what a store tells: error %d of %s", e, toldImage(x))
	}
	if image(o) != toldImage(x) {
		t.Fatalf("Load of %s: %s", toldImage(x), image(o))
	}
	return o
}

// script does a text's calls, one a line, and holds what each answers against what stands behind its arrow.
// What must hold of each command it looks at beside that.
func script(t *testing.T, s *Store, text string) {
	t.Helper()
	for _, line := range strings.Split(text, "\n") {
		line = strings.TrimSpace(line)
		call, is, ok := strings.Cut(line, "->")
		if line == "" || strings.HasPrefix(line, "//") {
			continue
		}
		if !ok {
			panic(line)
		}
		call, is = strings.TrimSpace(call), strings.TrimSpace(is)
		got, isRead := read(s, call)
		if !isRead {
			got = told(doWell(t, s, of(call)))
		}
		if got != is {
			t.Errorf("%s: %s; want %s", call, got, is)
		}
	}
}

// doWell does a command, and looks at what holds of each one: one that is refused changes nothing (R6), and one that
// comes again answers the same and changes nothing (P11.13).
func doWell(t *testing.T, s *Store, c api.Cmd) api.Result {
	t.Helper()
	was := image(s)
	r := s.Do(c)
	is := image(s)
	if r.Err != api.OK && is != was {
		t.Errorf("%+v is refused (%s), and changes %s to %s", c, told(r), was, is)
	}
	again := copyOf(t, s)
	r2 := again.Do(c)
	if image(again) != is {
		t.Errorf("%+v comes again, and changes %s to %s", c, is, image(again))
	}
	switch {
	case c.Kind == api.CmdPrewrite && c.One && r.Err == api.OK:
		if r2.Err != api.ErrCommitted || r2.Commit != r.Commit || !bytes.Equal(r2.Key, c.Muts[0].Key) {
			t.Errorf("%+v comes again: %s; want committed at %d", c, told(r2), r.Commit)
		}
	case told(r2) != told(r):
		t.Errorf("%+v comes again: %s; want %s", c, told(r2), told(r))
	}
	return r
}

func want(t *testing.T, what string, got, e api.Errno) {
	t.Helper()
	if got != e {
		t.Errorf("%s: error %d; want %d", what, got, e)
	}
}

func wantText(t *testing.T, what, got, is string) {
	t.Helper()
	if got != is {
		t.Errorf("%s: %s; want %s", what, got, is)
	}
}
