package engine

import (
	"fmt"
	"slices"
	"strings"
	"testing"

	"regatta/api"
	"regatta/disk"
)

// ops makes a batch of a text, an Op a word: +key=value, -key, *from,to.
func ops(text string) []api.Op {
	var out []api.Op
	for _, word := range strings.Fields(text) {
		switch rest := word[1:]; word[0] {
		case '+':
			key, value, _ := strings.Cut(rest, "=")
			out = append(out, api.Op{Kind: api.OpPut, Key: []byte(key), Value: []byte(value)})
		case '-':
			out = append(out, api.Op{Kind: api.OpDelete, Key: []byte(rest)})
		case '*':
			from, to, _ := strings.Cut(rest, ",")
			out = append(out, api.Op{Kind: api.OpWipe, Key: []byte(from), End: []byte(to)})
		}
	}
	return out
}

// text tells pairs: key=value, one behind the other. A pair that is Gone is told so, and never wanted.
func text(l []api.Pair) string {
	words := make([]string, len(l))
	for i, p := range l {
		words[i] = string(p.Key) + "=" + string(p.Value)
		if p.Gone {
			words[i] += " (gone)"
		}
	}
	return strings.Join(words, " ")
}

func want(t *testing.T, what string, got, code api.Errno) {
	t.Helper()
	if got != code {
		t.Errorf("%s: error %d; want %d", what, got, code)
	}
}

func wantText(t *testing.T, what, got, told string) {
	t.Helper()
	if got != told {
		t.Errorf("%s: %q; want %q", what, brief(got), brief(told))
	}
}

// brief cuts off what is too long to be read.
func brief(told string) string {
	if len(told) > 200 {
		return fmt.Sprintf("%s .. (%d bytes)", told[:200], len(told))
	}
	return told
}

func opened(t *testing.T, d *disk.Disk) *Engine {
	t.Helper()
	e, code := Open(d)
	if e == nil || code != api.OK {
		t.Fatalf("Open: engine %v, error %d", e, code)
	}
	return e
}

// refuses: Open answers this error, and no engine beside it.
func refuses(t *testing.T, what string, d *disk.Disk, code api.Errno) {
	t.Helper()
	if e, got := Open(d); e != nil || got != code {
		t.Errorf("Open of %s: engine %v, error %d; want none, error %d", what, e, got, code)
	}
}

// write: each batch is answered OK.
func write(t *testing.T, e *Engine, batches ...string) {
	t.Helper()
	for _, b := range batches {
		want(t, "Write("+b+")", e.Write(ops(b)), api.OK)
	}
}

// flush: OK, and then there are so many tables.
func flush(t *testing.T, e *Engine, tables int) {
	t.Helper()
	want(t, "Flush", e.Flush(), api.OK)
	counts(t, e, tables)
}

// compact: OK, and then there are so many tables.
func compact(t *testing.T, e *Engine, tables int) {
	t.Helper()
	want(t, "Compact", e.Compact(), api.OK)
	counts(t, e, tables)
}

func counts(t *testing.T, e *Engine, tables int) {
	t.Helper()
	if got := e.Tables(); got != tables {
		t.Errorf("Tables: %d; want %d", got, tables)
	}
}

// all is all that the engine has.
func all(t *testing.T, e *Engine) string {
	t.Helper()
	l, code := e.Scan(nil, nil, 1<<30)
	want(t, "Scan of all", code, api.OK)
	return text(l)
}

// has: the engine has just this, by each call that tells it.
func has(t *testing.T, e *Engine, told string) {
	t.Helper()
	wantText(t, "Scan of all", all(t, e), told)
	s := e.Snap()
	wantText(t, "Scan of all of a Snap", text(s.Scan(nil, nil, 1<<30)), told)
	for _, word := range strings.Fields(told) {
		key, value, _ := strings.Cut(word, "=")
		gets(t, e, key, value)
		if got, there := s.Get([]byte(key)); string(got) != value || !there {
			t.Errorf("Get(%q) of a Snap: %q, %v; want %q", key, got, there, value)
		}
	}
}

// gets: the key has this value.
func gets(t *testing.T, e *Engine, key, value string) {
	t.Helper()
	got, there, code := e.Get([]byte(key))
	if string(got) != value || !there || code != api.OK {
		t.Errorf("Get(%q): %q, %v, error %d; want %q", brief(key), brief(string(got)), there, code, brief(value))
	}
}

// lacks: the key is not there, and nothing is told beside that.
func lacks(t *testing.T, e *Engine, key string) {
	t.Helper()
	if got, there, code := e.Get([]byte(key)); got != nil || there || code != api.OK {
		t.Errorf("Get(%q): %q, %v, error %d; want none", brief(key), brief(string(got)), there, code)
	}
	if got, there := e.Snap().Get([]byte(key)); got != nil || there {
		t.Errorf("Get(%q) of a Snap: %q, %v; want none", brief(key), brief(string(got)), there)
	}
}

// isOver: each call answers ErrDead, whatever else is wrong with it, and nothing
// beside. Reads come first: a change would meet the dead disk by itself.
func isOver(t *testing.T, e *Engine) {
	t.Helper()
	for _, key := range []string{"", "a", "b"} {
		if got, there, code := e.Get([]byte(key)); got != nil || there || code != api.ErrDead {
			t.Errorf("Get(%q) of an engine that is over: %q, %v, error %d", key, got, there, code)
		}
	}
	for _, limit := range []int{-1, 0, 9} {
		if l, code := e.Scan(nil, nil, limit); l != nil || code != api.ErrDead {
			t.Errorf("Scan of an engine that is over: %q, error %d", text(l), code)
		}
	}
	counts(t, e, 0)
	if s := e.Snap(); s != nil {
		t.Errorf("Snap of an engine that is over: %v", s)
	}
	want(t, "Flush of an engine that is over", e.Flush(), api.ErrDead)
	want(t, "Compact of an engine that is over", e.Compact(), api.ErrDead)
	for _, batch := range [][]api.Op{nil, ops("+a=1"), {{}}, {{Kind: api.OpWipe, End: make([]byte, api.MaxRecord+1)}}} {
		want(t, "Write to an engine that is over", e.Write(batch), api.ErrDead)
	}
}

// tidied: on the disk is what counts, and at most one record of the log that the tables tell.
func tidied(t *testing.T, e *Engine) {
	t.Helper()
	tables := e.root.files()
	slices.Reverse(tables)
	if got := e.numbered(tableName); !slices.Equal(got, tables) {
		t.Errorf("the tables' files: %q; want %q", got, tables)
	}
	if first := e.log.First(); first+1 < e.root.begin {
		t.Errorf("the log begins with %d; the tables tell all below %d", first, e.root.begin)
	}
	if _, code := e.disk.Read(newRoot); code != api.ErrFile {
		t.Errorf("a new root is left: error %d", code)
	}
}

// copied is a disk with the same files, all of them synced.
func copied(t *testing.T, d *disk.Disk) *disk.Disk {
	t.Helper()
	out := disk.New()
	for _, name := range d.Names() {
		b, code := d.Read(name)
		want(t, "Read("+name+")", code, api.OK)
		lay(t, out, name, string(b))
	}
	return out
}

// lay puts these bytes in the place of a file, and they are synced.
func lay(t *testing.T, d *disk.Disk, name, b string) {
	t.Helper()
	d.Remove(name)
	want(t, "Write("+name+")", d.Write(name, []byte(b)), api.OK)
	want(t, "Sync("+name+")", d.Sync(name), api.OK)
}

// seg is the file of the log's record of that number.
func seg(n int) string { return fmt.Sprintf("log.%020d", n) }
