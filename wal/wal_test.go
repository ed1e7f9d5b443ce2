package wal

import (
	"bytes"
	"math"
	"slices"
	"strings"
	"testing"

	"regatta/api"
	"regatta/disk"
)

func TestExamples(t *testing.T) { // the rows of the chapter's table, one behind the other
	d := disk.New()
	l := opened(t, d, "w", 8)
	numbered(t, l, 1, 1)

	for i, text := range []string{"a", "b", "c"} {
		if n, e := l.Append([]byte(text)); n != uint64(i+1) || e != api.OK {
			t.Errorf("Append(%s): %d, error %d; want %d", text, n, e, i+1)
		}
	}
	numbered(t, l, 4, 1, 3)

	want(t, "Cut(3)", l.Cut(3), api.OK)
	numbered(t, l, 4, 3)
	gets(t, l, 1, "", api.ErrGone)
	gets(t, l, 3, "c", api.OK)
	gets(t, l, 4, "", api.ErrArg)

	d.Crash([]int{4})
	l = opened(t, d, "w", 8)
	numbered(t, l, 3, 3)
}

func TestFiles(t *testing.T) { // P4.1
	d := disk.New()
	l := opened(t, d, "w", 8)
	holds(t, d, texts{seg(1): ""})
	put(t, l, "a")
	holds(t, d, texts{seg(1): framed("a")})
	put(t, l, "", "b", "cc")
	holds(t, d, texts{seg(1): framed("a", ""), seg(3): framed("b", "cc")})
	put(t, l, "")
	holds(t, d, texts{seg(1): framed("a", ""), seg(3): framed("b", "cc"), seg(5): framed("")})
}

func TestNamesOfLogs(t *testing.T) { // P4.1: any bytes are a name; the segments of one log are no other one's
	names := []string{"w", "w.", ".", "w.new", "w.00000000000000000001", "new", "00000000000000000001", "\x00", "é", strings.Repeat("n", maxName)}
	d := disk.New()
	for _, name := range names {
		put(t, opened(t, d, name, 1), name, "of "+name)
	}
	if got := len(d.Names()); got != 2*len(names) {
		t.Errorf("%d files; want %d: %q", got, 2*len(names), d.Names())
	}
	for _, name := range names {
		l := opened(t, d, name, 1)
		has(t, l, name, "of "+name)
		if b, e := d.Read(name + ".00000000000000000002"); string(b) != framed("of "+name) || e != api.OK {
			t.Errorf("the second file of %q: %q, error %d", name, b, e)
		}
	}
}

func TestAppendMostBytes(t *testing.T) { // P4.3
	d := disk.New()
	l := opened(t, d, "w", math.MaxInt)
	most := strings.Repeat("m", api.MaxRecord)
	put(t, l, "a")
	n, e := l.Append([]byte(most + "m"))
	want(t, "Append of MaxRecord + 1 bytes", e, api.ErrFull)
	if n != 0 {
		t.Errorf("Append of MaxRecord + 1 bytes: %d beside the error", n)
	}
	holds(t, d, texts{seg(1): framed("a")})
	put(t, l, most, "b") // the log is not over
	has(t, l, "a", most, "b")
	want(t, "Sync", l.Sync(), api.OK)
	has(t, opened(t, d, "w", 1), "a", most, "b")
}

func TestTooLongBeginsNoSegment(t *testing.T) { // P4.3: nothing is done ahead of ErrFull
	d := disk.New()
	l := opened(t, d, "w", 1)
	put(t, l, "a")
	d.Arm(0)
	_, e := l.Append(make([]byte, api.MaxRecord+1))
	want(t, "Append of MaxRecord + 1 bytes", e, api.ErrFull)
	if d.Dead() {
		t.Errorf("Append of MaxRecord + 1 bytes changed the disk")
	}
	numbered(t, l, 2, 1)
}

func TestSegmentIsFull(t *testing.T) { // P4.3: a frame of a has six bytes
	for size, segments := range map[int][]uint64{
		1: {1, 2, 3, 4}, 5: {1, 2, 3, 4}, 6: {1, 2, 3, 4}, 7: {1, 3}, 12: {1, 3}, 13: {1, 4}, 18: {1, 4}, 19: {1}, 24: {1}, math.MaxInt: {1},
	} {
		d := disk.New()
		l := opened(t, d, "w", size)
		put(t, l, "a", "b", "c", "d")
		numbered(t, l, 5, segments...)
		has(t, l, "a", "b", "c", "d")
		l = opened(t, d, "w", size)
		numbered(t, l, 5, segments...)
		has(t, l, "a", "b", "c", "d")
	}
}

func TestSizeIsOfThisOpen(t *testing.T) { // P4.3: the bytes count that the file has, whoever wrote them
	d := disk.New()
	put(t, opened(t, d, "w", 100), "a", "b")
	l := opened(t, d, "w", 13)
	put(t, l, "c")
	numbered(t, l, 4, 1)
	put(t, l, "d")
	numbered(t, l, 5, 1, 4)
	d.Crash(nil)
	l = opened(t, d, "w", 1)
	numbered(t, l, 4, 1, 4)
	put(t, l, "e") // into the empty segment
	numbered(t, l, 5, 1, 4)
}

func TestFullSegmentIsSynced(t *testing.T) { // P4.3
	d := disk.New()
	l := opened(t, d, "w", 12)
	put(t, l, "a", "b")
	kept(t, d, texts{seg(1): ""})

	d = disk.New()
	l = opened(t, d, "w", 12)
	put(t, l, "a", "b", "c")
	kept(t, d, texts{seg(1): framed("a", "b"), seg(3): ""})
}

func TestSync(t *testing.T) { // P4.3
	d := disk.New()
	l := opened(t, d, "w", 12)
	want(t, "Sync of nothing", l.Sync(), api.OK)
	put(t, l, "a", "b", "c")
	want(t, "Sync", l.Sync(), api.OK)
	want(t, "Sync again", l.Sync(), api.OK)
	put(t, l, "d")
	kept(t, d, texts{seg(1): framed("a", "b"), seg(3): framed("c")})
}

// ends are the ways in which a disk refuses a log of a and b, two records a segment, what comes next.
func ends() map[string]func(d *disk.Disk, l *Log) (got, e api.Errno) {
	return map[string]func(d *disk.Disk, l *Log) (got, e api.Errno){
		"dead at the Sync of Append": func(d *disk.Disk, l *Log) (got, e api.Errno) {
			d.Arm(0)
			_, got = l.Append([]byte("c"))
			return got, api.ErrDead
		},
		"dead at the Write of Append": func(d *disk.Disk, l *Log) (got, e api.Errno) {
			d.Arm(1)
			_, got = l.Append([]byte("c"))
			return got, api.ErrDead
		},
		"full at Append": func(d *disk.Disk, l *Log) (got, e api.Errno) {
			d.Write("other", make([]byte, api.MaxDisk-d.Size()))
			_, got = l.Append([]byte("c"))
			d.Remove("other")
			return got, api.ErrFull
		},
		"no file at Append": func(d *disk.Disk, l *Log) (got, e api.Errno) {
			d.Rename(seg(1), "other")
			_, got = l.Append([]byte("c"))
			d.Rename("other", seg(1))
			return got, api.ErrFile
		},
		"dead at Sync": func(d *disk.Disk, l *Log) (got, e api.Errno) {
			d.Arm(0)
			return l.Sync(), api.ErrDead
		},
		"no file at Sync": func(d *disk.Disk, l *Log) (got, e api.Errno) {
			d.Rename(seg(1), "other")
			got = l.Sync()
			d.Rename("other", seg(1))
			return got, api.ErrFile
		},
	}
}

func TestOver(t *testing.T) { // P4.3
	for name, end := range ends() {
		d := disk.New()
		l := opened(t, d, "w", 12)
		put(t, l, "a", "b")
		want(t, "Sync", l.Sync(), api.OK)
		got, e := end(d, l)
		want(t, name, got, e)
		over(t, l)
		d.Crash(nil)
		over(t, l)
		numbered(t, l, 3, 1) // what was refused is not there (R6)
		kept(t, d, texts{seg(1): framed("a", "b")})
		has(t, opened(t, d, "w", 12), "a", "b")
	}
}

func TestOverWithinASegment(t *testing.T) { // P4.3: where no new segment is begun, Write is the first that is asked
	for left, e := range []api.Errno{api.ErrDead, api.OK} {
		d := disk.New()
		l := opened(t, d, "w", 100)
		put(t, l, "a")
		d.Arm(left)
		_, got := l.Append([]byte("b"))
		want(t, "Append", got, e)
	}
}

func TestGet(t *testing.T) { // P4.4
	l := opened(t, disk.New(), "w", 13)
	for _, index := range []uint64{1, 2, math.MaxUint64} {
		gets(t, l, index, "", api.ErrArg)
	}
	gets(t, l, 0, "", api.ErrGone)
	records := []string{"a", "", "ccc", "d", "eeeeeeeeeeeeeeeeeeee", "f", "g"}
	put(t, l, records...)
	has(t, l, records...)
	gets(t, l, math.MaxUint64, "", api.ErrArg)
	want(t, "Cut", l.Cut(l.Next()), api.OK)
	first := l.First()
	has(t, l, records[first-1:]...)
	for index := range first {
		gets(t, l, index, "", api.ErrGone)
	}
}

func TestFirstAndNext(t *testing.T) { // P4.4: each is the same when all records ahead of an empty segment are given up
	d := disk.New()
	l := opened(t, d, "w", 1)
	put(t, l, "a", "b")
	want(t, "Cut", l.Cut(2), api.OK)
	d.Crash(nil)
	l = opened(t, d, "w", 1)
	numbered(t, l, 2, 2)
	has(t, l)
	put(t, l, "x")
	has(t, l, "x")
}

func TestCut(t *testing.T) { // P4.5: segments of two records
	for index, segments := range map[uint64][]uint64{
		0: {1, 3, 5}, 1: {1, 3, 5}, 2: {1, 3, 5}, 3: {3, 5}, 4: {3, 5}, 5: {5}, 6: {5}, 7: {5}, math.MaxUint64: {5},
	} {
		d := disk.New()
		l := opened(t, d, "w", 12)
		put(t, l, "a", "b", "c", "d", "e", "f")
		want(t, "Cut", l.Cut(index), api.OK)
		numbered(t, l, 7, segments...)
		has(t, l, []string{"a", "b", "c", "d", "e", "f"}[segments[0]-1:]...)
		want(t, "Cut again", l.Cut(index), api.OK)
		numbered(t, l, 7, segments...)
		if got := len(d.Names()); got != len(segments) {
			t.Errorf("Cut(%d): the files %q; want %d", index, d.Names(), segments)
		}
		put(t, l, "g")
		numbered(t, opened(t, d, "w", 12), 8, append(segments, 7)...)
	}
}

func TestCutFirstOneFirst(t *testing.T) { // P4.5: and what is gone when the disk dies is gone
	records := []string{"a", "b", "c", "d"}
	for left := range records {
		d := disk.New()
		l := opened(t, d, "w", 1)
		put(t, l, records...)
		want(t, "Sync", l.Sync(), api.OK)
		d.Arm(left)
		e, first := api.ErrDead, uint64(left+1)
		if left == len(records)-1 {
			e = api.OK
		}
		want(t, "Cut(9)", l.Cut(9), e)
		if l.First() != first || l.Next() != 5 {
			t.Errorf("Cut broken off at %d: First %d, Next %d", left, l.First(), l.Next())
		}
		if e != api.OK {
			over(t, l)
		}
		d.Crash(nil)
		l = opened(t, d, "w", 1)
		if l.First() != first {
			t.Errorf("Cut broken off at %d: First %d", left, l.First())
		}
		has(t, l, records[left:]...)
	}
}

func TestCutOfNoFile(t *testing.T) { // P4.5: another error of the disk
	d := disk.New()
	l := opened(t, d, "w", 1)
	put(t, l, "a", "b", "c")
	d.Remove(seg(2))
	want(t, "Cut(3)", l.Cut(3), api.ErrFile)
	numbered(t, l, 4, 2, 3)
	over(t, l)
}

func TestHandedInIsNotKept(t *testing.T) { // R3
	b := []byte("12345678")
	l := opened(t, disk.New(), "w", 100)
	l.Append(b[:2])
	l.Append(b[2:4])
	if string(b) != "12345678" {
		t.Errorf("Append changed what it was handed: %q", b)
	}
	copy(b, "!!!!!!!!")
	has(t, l, "12", "34")
}

func TestToldIsNewMemory(t *testing.T) { // R3
	d := disk.New()
	put(t, opened(t, d, "w", 10), "12", "34", "5", "6")
	for _, l := range []*Log{opened(t, d, "w", 10), opened(t, d, "w", 1)} {
		one, _ := l.Get(1)
		two, _ := l.Get(1)
		copy(one, "!!")
		_ = append(one, "!!!!!!!!"...)
		if !bytes.Equal(two, []byte("12")) {
			t.Errorf("two Gets share memory: %q", two)
		}
		segments := l.Segments()
		segments[0] = 9
		_ = append(segments[:1], 9)
		if !slices.Equal(l.Segments(), []uint64{1, 3}) {
			t.Errorf("Segments shares memory: %d", l.Segments())
		}
		has(t, l, "12", "34", "5", "6")
	}
}

func TestLogsHaveNothingInCommon(t *testing.T) { // R4: but the disk that they are handed
	one, two, c := disk.New(), disk.New(), disk.New()
	a, b := opened(t, one, "w", 1), opened(t, two, "w", 1)
	x, y := opened(t, c, "x", 1), opened(t, c, "y", 1)
	put(t, a, "a1", "a2", "a3")
	put(t, b, "b1")
	put(t, x, "x1", "x2")
	put(t, y, "y1")
	a.Cut(3)
	x.Cut(2)
	has(t, a, "a3")
	has(t, b, "b1")
	has(t, x, "x2")
	has(t, y, "y1")
	one.Arm(0)
	a.Sync()
	over(t, a)
	put(t, b, "b2")
	has(t, b, "b1", "b2")
	c.Remove("x.00000000000000000002")
	want(t, "Sync of x", x.Sync(), api.ErrFile)
	over(t, x)
	want(t, "Sync of y", y.Sync(), api.OK)
	has(t, y, "y1")
}
