package disk

import (
	"fmt"
	"slices"
	"strconv"
	"strings"
	"testing"

	"regatta/api"
)

func want(t *testing.T, what string, got, e api.Errno) {
	t.Helper()
	if got != e {
		t.Errorf("%s: error %d; want %d", what, got, e)
	}
}

// brief tells a text that may be as long as a disk.
func brief(text string) string {
	if len(text) > 40 {
		return fmt.Sprintf("%q and %d bytes more", text[:40], len(text)-40)
	}
	return strconv.Quote(text)
}

// holds: the alive disk has these files with these bytes, and no others.
func holds(t *testing.T, d *Disk, files map[string]string) {
	t.Helper()
	names, size := []string{}, 0
	for name, text := range files {
		names = append(names, name)
		size += len(text)
		b, e := d.Read(name)
		if string(b) != text || e != api.OK {
			t.Errorf("Read(%q): %s, error %d; want %s", name, brief(string(b)), e, brief(text))
		}
	}
	slices.Sort(names)
	if got := d.Names(); !slices.Equal(got, names) {
		t.Errorf("Names: %q; want %q", got, names)
	}
	if got := d.Size(); got != size {
		t.Errorf("Size: %d; want %d", got, size)
	}
	if d.Dead() {
		t.Errorf("Dead: true; want an alive disk")
	}
}

// silent: the disk is dead, and each call says so, whatever else is wrong with it.
func silent(t *testing.T, d *Disk) {
	t.Helper()
	long := strings.Repeat("n", api.MaxName+1)
	if !d.Dead() {
		t.Errorf("Dead: false; want a dead disk")
	}
	for _, name := range []string{"a", "none", "", long} {
		want(t, "Write of a dead disk", d.Write(name, []byte("1")), api.ErrDead)
		want(t, "Write of too much, of a dead disk", d.Write(name, make([]byte, api.MaxDisk+1)), api.ErrDead)
		want(t, "Sync of a dead disk", d.Sync(name), api.ErrDead)
		want(t, "Remove of a dead disk", d.Remove(name), api.ErrDead)
		want(t, "Rename of a dead disk", d.Rename(name, "b"), api.ErrDead)
		want(t, "Rename to it, of a dead disk", d.Rename("a", name), api.ErrDead)
		b, e := d.Read(name)
		want(t, "Read of a dead disk", e, api.ErrDead)
		if b != nil {
			t.Errorf("Read of a dead disk: %q beside the error", b)
		}
	}
	if l, n := d.Names(), d.Size(); len(l) != 0 || n != 0 {
		t.Errorf("of a dead disk: Names %q, Size %d; want none, 0", l, n)
	}
}

// made is a disk whose files have synced bytes, and others behind them.
func made(t *testing.T, synced, loose map[string]string) *Disk {
	t.Helper()
	d := New()
	for name, text := range synced {
		want(t, "Write", d.Write(name, []byte(text)), api.OK)
		want(t, "Sync", d.Sync(name), api.OK)
	}
	for name, text := range loose {
		want(t, "Write", d.Write(name, []byte(text)), api.OK)
	}
	return d
}

// changes are the calls that Arm counts, each one possible on a disk with the file a.
func changes() map[string]func(d *Disk) api.Errno {
	return map[string]func(d *Disk) api.Errno{
		"Write to a file":     func(d *Disk) api.Errno { return d.Write("a", []byte("+")) },
		"Write of no byte":    func(d *Disk) api.Errno { return d.Write("a", nil) },
		"Write of a new file": func(d *Disk) api.Errno { return d.Write("new", []byte("+")) },
		"Write of a bare one": func(d *Disk) api.Errno { return d.Write("new", nil) },
		"Sync":                func(d *Disk) api.Errno { return d.Sync("a") },
		"Remove":              func(d *Disk) api.Errno { return d.Remove("a") },
		"Rename":              func(d *Disk) api.Errno { return d.Rename("a", "new") },
		"Rename to itself":    func(d *Disk) api.Errno { return d.Rename("a", "a") },
		"Rename over another": func(d *Disk) api.Errno { return d.Rename("a", "b") },
	}
}

// refusals are calls that answer an error, on a disk with the file a and no file none.
func refusals() map[string]func(d *Disk) api.Errno {
	long := strings.Repeat("n", api.MaxName+1)
	return map[string]func(d *Disk) api.Errno{
		"Write of no name":           func(d *Disk) api.Errno { return d.Write("", nil) },
		"Write of a long name":       func(d *Disk) api.Errno { return d.Write(long, nil) },
		"Write of too much":          func(d *Disk) api.Errno { return d.Write("none", make([]byte, api.MaxDisk+1)) },
		"Sync of none":               func(d *Disk) api.Errno { return d.Sync("none") },
		"Remove of none":             func(d *Disk) api.Errno { return d.Remove("none") },
		"Rename of none":             func(d *Disk) api.Errno { return d.Rename("none", "a") },
		"Rename to no name":          func(d *Disk) api.Errno { return d.Rename("a", "") },
		"Rename to a long name":      func(d *Disk) api.Errno { return d.Rename("a", long) },
		"Read of none (a look)":      func(d *Disk) api.Errno { _, e := d.Read("none"); return e },
		"Read of no name (a look)":   func(d *Disk) api.Errno { _, e := d.Read(""); return e },
		"Sync of a long name (none)": func(d *Disk) api.Errno { return d.Sync(long) },
	}
}
