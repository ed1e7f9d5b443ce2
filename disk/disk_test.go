package disk

import (
	"math"
	"slices"
	"strings"
	"testing"

	"regatta/api"
)

type texts = map[string]string

func TestExamples(t *testing.T) { // the rows of the chapter's table, one behind the other
	d := New()
	want(t, "Write(a, 01 02)", d.Write("a", []byte{1, 2}), api.OK)
	want(t, "Sync(a)", d.Sync("a"), api.OK)
	want(t, "Write(a, 03 04)", d.Write("a", []byte{3, 4}), api.OK)
	holds(t, d, texts{"a": "\x01\x02\x03\x04"})

	d.Crash([]int{1})
	holds(t, d, texts{"a": "\x01\x02\x03"})
	d.Crash([]int{9})
	holds(t, d, texts{"a": "\x01\x02\x03"})

	d.Arm(1)
	want(t, "Write(b, 05)", d.Write("b", []byte{5}), api.OK)
	want(t, "Sync(b)", d.Sync("b"), api.ErrDead)
	_, e := d.Read("b")
	want(t, "Read(b)", e, api.ErrDead)
	if !d.Dead() {
		t.Errorf("Dead: false; want true")
	}

	d.Crash(nil)
	holds(t, d, texts{"a": "\x01\x02\x03", "b": ""})

	want(t, "Rename(a, c)", d.Rename("a", "c"), api.OK)
	holds(t, d, texts{"b": "", "c": "\x01\x02\x03"})
	want(t, "Remove(a)", d.Remove("a"), api.ErrFile)
	want(t, "Write of no name", d.Write("", []byte{1}), api.ErrArg)
}

func TestNew(t *testing.T) { // P2.1
	holds(t, New(), nil)
}

func TestWrite(t *testing.T) { // P2.1
	d := New()
	want(t, "Write(a, none)", d.Write("a", nil), api.OK)
	holds(t, d, texts{"a": ""})
	want(t, "Write(a, 12)", d.Write("a", []byte("12")), api.OK)
	want(t, "Write(a, none)", d.Write("a", []byte{}), api.OK)
	want(t, "Write(b, 3)", d.Write("b", []byte("3")), api.OK)
	want(t, "Write(a, 45)", d.Write("a", []byte("45")), api.OK)
	holds(t, d, texts{"a": "1245", "b": "3"})
}

func TestNamesOfFiles(t *testing.T) { // P2.1: any bytes are a name, up to MaxName of them
	d, long := New(), strings.Repeat("n", api.MaxName)
	want(t, "Write of MaxName bytes", d.Write(long, []byte("1")), api.OK)
	want(t, "Write of MaxName + 1 bytes", d.Write(long+"n", []byte("1")), api.ErrArg)
	want(t, "Write of no byte", d.Write("", nil), api.ErrArg)
	// As many runes as MaxName, but more bytes.
	want(t, "Write of MaxName runes", d.Write(strings.Repeat("é", api.MaxName), nil), api.ErrArg)
	want(t, "Write of a zero byte", d.Write("\x00", []byte("2")), api.OK)
	holds(t, d, texts{long: "1", "\x00": "2"})

	want(t, "Rename to MaxName bytes", d.Rename("\x00", strings.Repeat("m", api.MaxName)), api.OK)
	want(t, "Rename to MaxName + 1 bytes", d.Rename(long, long+"n"), api.ErrArg)
	want(t, "Rename to no byte", d.Rename(long, ""), api.ErrArg)
	holds(t, d, texts{long: "1", strings.Repeat("m", api.MaxName): "2"})
}

func TestNamesRise(t *testing.T) { // P2.1
	rising := []string{"\x00", "\x00\x00", "A", "B", "Ba", "a", "a\x00", "aa", "b", "\x7f", "\x80", "é", "\xff"}
	d := New()
	for i := range rising {
		d.Write(rising[(i*5+3)%len(rising)], nil) // 5 and the length have no common factor: each comes once
	}
	if got := d.Names(); !slices.Equal(got, rising) {
		t.Errorf("Names: %q; want %q", got, rising)
	}
}

func TestFull(t *testing.T) { // P2.1
	d := New()
	want(t, "Write of more than MaxDisk", d.Write("a", make([]byte, api.MaxDisk+1)), api.ErrFull)
	holds(t, d, nil)
	want(t, "Write of half", d.Write("a", make([]byte, api.MaxDisk/2)), api.OK)
	want(t, "Write of more than the other half", d.Write("b", make([]byte, api.MaxDisk/2+1)), api.ErrFull)
	want(t, "Write of the other half", d.Write("b", make([]byte, api.MaxDisk/2)), api.OK)
	want(t, "Write of one more to a", d.Write("a", []byte("1")), api.ErrFull)
	want(t, "Write of one more to a new one", d.Write("c", []byte("1")), api.ErrFull)
	want(t, "Write of one more to no name", d.Write("", []byte("1")), api.ErrArg)
	if got := d.Names(); !slices.Equal(got, []string{"a", "b"}) {
		t.Errorf("behind ErrFull: Names %q; want a, b", got)
	}
	want(t, "Write of no byte", d.Write("c", nil), api.OK)
	if got := d.Size(); got != api.MaxDisk {
		t.Errorf("Size: %d; want %d", got, api.MaxDisk)
	}
}

func TestRoomComesBack(t *testing.T) { // P2.1: by each way in which bytes go
	half := make([]byte, api.MaxDisk/2)
	ways := map[string]func(d *Disk){
		"Remove":        func(d *Disk) { d.Remove("b") },
		"Rename over b": func(d *Disk) { d.Write("c", nil); d.Rename("c", "b") },
		"Crash":         func(d *Disk) { d.Crash(nil) },
	}
	for name, free := range ways {
		d := New()
		d.Write("a", half)
		d.Sync("a")
		d.Write("b", half)
		free(d)
		if got := d.Size(); got != len(half) {
			t.Errorf("behind %s: Size %d; want %d", name, got, len(half))
		}
		want(t, "Write of one too many, behind "+name, d.Write("d", make([]byte, len(half)+1)), api.ErrFull)
		want(t, "Write of half, behind "+name, d.Write("d", half), api.OK)
	}
}

func TestNoSuchFile(t *testing.T) { // P2.1
	d := made(t, texts{"a": "1"}, nil)
	for _, name := range []string{"b", "", "aa", strings.Repeat("n", api.MaxName+1)} {
		want(t, "Sync", d.Sync(name), api.ErrFile)
		want(t, "Remove", d.Remove(name), api.ErrFile)
		want(t, "Rename", d.Rename(name, "c"), api.ErrFile)
		want(t, "Rename to a wrong name", d.Rename(name, ""), api.ErrFile)
		b, e := d.Read(name)
		want(t, "Read", e, api.ErrFile)
		if b != nil {
			t.Errorf("Read of no file: %q beside the error", b)
		}
	}
	holds(t, d, texts{"a": "1"})
}

func TestRemove(t *testing.T) { // P2.1
	d := made(t, texts{"a": "1", "b": "2"}, nil)
	want(t, "Remove(a)", d.Remove("a"), api.OK)
	holds(t, d, texts{"b": "2"})
	want(t, "Remove(a) again", d.Remove("a"), api.ErrFile)
	want(t, "Write(a)", d.Write("a", []byte("3")), api.OK)
	holds(t, d, texts{"a": "3", "b": "2"})
	d.Crash(nil) // what was synced of the old one says nothing of the new one
	holds(t, d, texts{"a": "", "b": "2"})
}

func TestRename(t *testing.T) { // P2.1
	d := made(t, texts{"a": "1", "b": "22", "c": "333"}, nil)
	want(t, "Rename(a, x)", d.Rename("a", "x"), api.OK)
	holds(t, d, texts{"x": "1", "b": "22", "c": "333"})
	want(t, "Rename(b, c)", d.Rename("b", "c"), api.OK)
	holds(t, d, texts{"x": "1", "c": "22"})
	want(t, "Rename(c, c)", d.Rename("c", "c"), api.OK)
	holds(t, d, texts{"x": "1", "c": "22"})
	want(t, "Write(c)", d.Write("c", []byte("+")), api.OK)
	want(t, "Write(b)", d.Write("b", []byte("-")), api.OK)
	holds(t, d, texts{"x": "1", "c": "22+", "b": "-"})
}

func TestWhatStays(t *testing.T) { // P2.2
	rows := []struct {
		name string
		do   func(d *Disk)
		want texts
	}{
		{"a file that was never synced", func(d *Disk) { d.Write("n", []byte("1")) }, texts{"a": "12", "b": "34", "n": ""}},
		{"Remove", func(d *Disk) { d.Remove("a") }, texts{"b": "34"}},
		{"Rename", func(d *Disk) { d.Rename("a", "n") }, texts{"n": "12", "b": "34"}},
		{"Rename over another", func(d *Disk) { d.Rename("a", "b") }, texts{"b": "12"}},
		{"Rename to itself", func(d *Disk) { d.Write("a", []byte("5")); d.Rename("a", "a") }, texts{"a": "12", "b": "34"}},
		{"Rename of loose bytes over synced ones", func(d *Disk) { d.Write("n", []byte("5")); d.Rename("n", "a") }, texts{"a": "", "b": "34"}},
		{"Sync ahead of Rename", func(d *Disk) { d.Write("a", []byte("5")); d.Sync("a"); d.Rename("a", "n") }, texts{"n": "125", "b": "34"}},
		{"Sync behind Rename", func(d *Disk) { d.Write("a", []byte("5")); d.Rename("a", "n"); d.Sync("n") }, texts{"n": "125", "b": "34"}},
		{"Write behind Sync", func(d *Disk) { d.Sync("a"); d.Write("a", []byte("5")) }, texts{"a": "12", "b": "34"}},
		{"Sync of another", func(d *Disk) { d.Write("a", []byte("5")); d.Sync("b") }, texts{"a": "12", "b": "34"}},
		{"a file in a removed one's place", func(d *Disk) { d.Remove("a"); d.Write("a", []byte("567")) }, texts{"a": "", "b": "34"}},
		{"a file in a renamed one's place", func(d *Disk) { d.Rename("a", "n"); d.Write("a", []byte("567")) }, texts{"a": "", "b": "34", "n": "12"}},
	}
	for _, r := range rows {
		d := made(t, texts{"a": "12", "b": "34"}, nil)
		r.do(d)
		d.Crash(nil)
		t.Run(r.name, func(t *testing.T) { holds(t, d, r.want) })
	}
}

func TestArm(t *testing.T) { // P2.3: the last of n + 1 changes does nothing, whichever it is
	for n := range 4 {
		for name, last := range changes() {
			d := made(t, texts{"a": "1", "b": "2"}, texts{"a": "3"})
			d.Arm(n)
			for range n {
				want(t, "a call within what was armed", d.Write("c", []byte("4")), api.OK)
			}
			want(t, name, last(d), api.ErrDead)
			silent(t, d)
			d.Crash([]int{9, 9})
			files := texts{"a": "13", "b": "2"}
			if n > 0 {
				files["c"] = strings.Repeat("4", n)
			}
			t.Run(name, func(t *testing.T) { holds(t, d, files) })
		}
	}
}

func TestArmCountsEachChange(t *testing.T) { // P2.3
	for name, do := range changes() {
		d := made(t, texts{"a": "1", "b": "2"}, nil)
		d.Arm(1)
		want(t, name, do(d), api.OK)
		want(t, "a call behind "+name, d.Write("x", nil), api.ErrDead)
		silent(t, d)
	}
}

func TestErrorsDontCount(t *testing.T) { // P2.3, R6
	for name, do := range refusals() {
		d := made(t, texts{"a": "1"}, nil)
		alone := do(d)
		d.Arm(0)
		for range 3 {
			if e := do(d); e == api.OK || e != alone {
				t.Errorf("%s: error %d; want %d, armed or not", name, e, alone)
			}
		}
		holds(t, d, texts{"a": "1"})
		want(t, "Sync behind "+name, d.Sync("a"), api.ErrDead)
	}
}

func TestLooksDontCount(t *testing.T) { // P2.3
	d := made(t, texts{"a": "1"}, nil)
	d.Arm(0)
	for range 3 {
		holds(t, d, texts{"a": "1"})
	}
	want(t, "Sync", d.Sync("a"), api.ErrDead)
}

func TestArmBelowZero(t *testing.T) { // P2.3
	for _, n := range []int{-1, -5, math.MinInt} {
		d := New()
		d.Arm(n)
		want(t, "Write", d.Write("a", nil), api.ErrDead)
		silent(t, d)
	}
}

func TestArmOfMany(t *testing.T) { // P2.3
	d := New()
	d.Arm(math.MaxInt)
	for range 100 {
		want(t, "Write", d.Write("a", []byte("1")), api.OK)
	}
	holds(t, d, texts{"a": strings.Repeat("1", 100)})
}

func TestArmCountsAnew(t *testing.T) { // P2.3
	d := New()
	for _, n := range []int{0, 3, 1, 2} {
		d.Arm(n)
		if n > 0 {
			want(t, "Write", d.Write("a", nil), api.OK)
		}
	}
	want(t, "Write", d.Write("a", nil), api.OK)
	want(t, "Write", d.Write("a", nil), api.ErrDead)
	silent(t, d)
}

func TestArmOfADeadDisk(t *testing.T) { // P2.3: it stays dead, and P2.4: nothing is armed behind Crash
	d := New()
	d.Arm(0)
	d.Write("a", nil)
	d.Arm(5)
	silent(t, d)
	d.Crash(nil)
	for range 10 {
		want(t, "Write", d.Write("a", nil), api.OK)
	}
	holds(t, d, texts{"a": ""})
}

func TestCrash(t *testing.T) { // P2.4
	synced := texts{"b": "bb", "c": "cc", "d": "dd"}
	loose := texts{"a": "123", "c": "456", "e": "789"}
	rows := []struct {
		keep    []int
		a, c, e string
	}{
		{nil, "", "cc", ""},
		{[]int{}, "", "cc", ""},
		{[]int{0, 0, 0}, "", "cc", ""},
		{[]int{-1, math.MinInt, 1}, "", "cc", "7"},
		{[]int{1}, "1", "cc", ""},
		{[]int{1, 2}, "1", "cc45", ""},
		{[]int{2, 1, 3}, "12", "cc4", "789"},
		{[]int{3, 3, 3, 3}, "123", "cc456", "789"},
		{[]int{4, math.MaxInt, 1 << 40}, "123", "cc456", "789"},
		{[]int{0, 0, 2, 9, 9}, "", "cc", "78"},
	}
	for _, r := range rows {
		d := made(t, synced, loose)
		d.Crash(r.keep)
		files := texts{"a": r.a, "b": "bb", "c": r.c, "d": "dd", "e": r.e}
		holds(t, d, files)
		d.Crash(nil) // all that was there is synced
		holds(t, d, files)
	}
}

func TestCrashPassesBareFiles(t *testing.T) { // P2.4: a file without a byte has none that is not synced
	d := New()
	d.Write("a", nil)
	d.Write("b", []byte("12"))
	d.Crash([]int{1})
	holds(t, d, texts{"a": "", "b": "1"})
}

func TestCrashOfADeadDisk(t *testing.T) { // P2.4
	d := made(t, texts{"b": "bb"}, texts{"a": "123", "b": "45"})
	d.Arm(0)
	want(t, "Sync(b)", d.Sync("b"), api.ErrDead)
	d.Crash([]int{2, 1})
	holds(t, d, texts{"a": "12", "b": "bb4"})
}

func TestCrashDisarms(t *testing.T) { // P2.4
	d := New()
	d.Arm(1)
	d.Crash(nil)
	for range 5 {
		want(t, "Write", d.Write("a", []byte("1")), api.OK)
	}
	holds(t, d, texts{"a": "11111"})
}

func TestWritesBehindACrash(t *testing.T) { // P2.4: what was torn off does not come again
	d := made(t, nil, texts{"a": "123456"})
	d.Crash([]int{2})
	want(t, "Write", d.Write("a", []byte("x")), api.OK)
	holds(t, d, texts{"a": "12x"})
	d.Crash(nil)
	holds(t, d, texts{"a": "12"})
}
