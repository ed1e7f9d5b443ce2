package wal

import (
	"fmt"
	"maps"
	"slices"
	"testing"

	"regatta/api"
	"regatta/codec"
	"regatta/disk"
)

type texts = map[string]string

func want(t *testing.T, what string, got, e api.Errno) {
	t.Helper()
	if got != e {
		t.Errorf("%s: error %d; want %d", what, got, e)
	}
}

func opened(t *testing.T, d *disk.Disk, name string, size int) *Log {
	t.Helper()
	l, e := Open(d, name, size)
	if l == nil || e != api.OK {
		t.Fatalf("Open(%q, %d): error %d", name, size, e)
	}
	return l
}

// refused: Open answers this error, and no log beside it.
func refused(t *testing.T, what string, d *disk.Disk, name string, size int, e api.Errno) {
	t.Helper()
	if l, got := Open(d, name, size); l != nil || got != e {
		t.Errorf("Open of %s: log %v, error %d; want none, error %d", what, l, got, e)
	}
}

// put: Append answers the number behind the last one.
func put(t *testing.T, l *Log, records ...string) {
	t.Helper()
	for _, text := range records {
		index := l.Next()
		if n, e := l.Append([]byte(text)); n != index || e != api.OK {
			t.Errorf("Append(%s): %d, error %d; want %d", brief(text), n, e, index)
		}
	}
}

// brief tells a text that may be as long as a record.
func brief(text string) string {
	if len(text) > 40 {
		return fmt.Sprintf("%q and %d bytes more", text[:40], len(text)-40)
	}
	return fmt.Sprintf("%q", text)
}

// numbered: the log begins with this number, and its segments with these.
func numbered(t *testing.T, l *Log, next uint64, segments ...uint64) {
	t.Helper()
	if l.First() != segments[0] || l.Next() != next || !slices.Equal(l.Segments(), segments) {
		t.Errorf("First %d, Next %d, Segments %d; want %d, %d, %d", l.First(), l.Next(), l.Segments(), segments[0], next, segments)
	}
}

// gets: Get answers this, and nothing beside an error.
func gets(t *testing.T, l *Log, index uint64, text string, e api.Errno) {
	t.Helper()
	b, got := l.Get(index)
	if string(b) != text || got != e || e != api.OK && b != nil {
		t.Errorf("Get(%d): %s, error %d; want %s, error %d", index, brief(string(b)), got, brief(text), e)
	}
}

// has: from First on the log has these records, and nothing ahead of them or behind them.
func has(t *testing.T, l *Log, records ...string) {
	t.Helper()
	if got := l.Next() - l.First(); got != uint64(len(records)) {
		t.Errorf("First %d, Next %d: %d records; want %d", l.First(), l.Next(), got, len(records))
	}
	for i, text := range records {
		gets(t, l, l.First()+uint64(i), text, api.OK)
	}
	gets(t, l, l.First()-1, "", api.ErrGone)
	gets(t, l, l.Next(), "", api.ErrArg)
}

// over: each call that can say so answers ErrDead, whatever else is wrong with it.
func over(t *testing.T, l *Log) {
	t.Helper()
	for _, b := range [][]byte{nil, []byte("x"), make([]byte, api.MaxRecord+1)} {
		n, e := l.Append(b)
		want(t, "Append of a log that is over", e, api.ErrDead)
		if n != 0 {
			t.Errorf("Append of a log that is over: %d beside the error", n)
		}
	}
	want(t, "Sync of a log that is over", l.Sync(), api.ErrDead)
	for _, index := range []uint64{0, l.First(), l.Next(), 1 << 63} {
		want(t, "Cut of a log that is over", l.Cut(index), api.ErrDead)
		gets(t, l, index, "", api.ErrDead)
	}
}

// framed is what a segment's file has of these records.
func framed(records ...string) string {
	out := ""
	for _, text := range records {
		out += string(codec.Frame([]byte(text)))
	}
	return out
}

// seg is the name of the file of the log w that begins with n.
func seg(n uint64) string { return fmt.Sprintf("w.%020d", n) }

// laid is a disk with these files, nothing of them synced.
func laid(t *testing.T, files texts) *disk.Disk {
	t.Helper()
	d := disk.New()
	for name, text := range files {
		want(t, "Write("+name+")", d.Write(name, []byte(text)), api.OK)
	}
	return d
}

// holds: the disk has these files with these bytes, and no others.
func holds(t *testing.T, d *disk.Disk, files texts) {
	t.Helper()
	if got, names := d.Names(), slices.Sorted(maps.Keys(files)); !slices.Equal(got, names) {
		t.Errorf("the disk's files: %q; want %q", got, names)
	}
	for name, text := range files {
		if b, e := d.Read(name); string(b) != text || e != api.OK {
			t.Errorf("the file %s: %s, error %d; want %s", name, brief(string(b)), e, brief(text))
		}
	}
}

// kept: a crash that keeps nothing loose leaves these files.
func kept(t *testing.T, d *disk.Disk, files texts) {
	t.Helper()
	d.Crash(nil)
	holds(t, d, files)
}

// with is files and those behind them.
func with(files texts, more texts) texts {
	out := maps.Clone(files)
	maps.Copy(out, more)
	return out
}
