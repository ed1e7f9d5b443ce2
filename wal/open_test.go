package wal

import (
	"math"
	"strings"
	"testing"

	"regatta/api"
	"regatta/disk"
)

func TestOpenArguments(t *testing.T) { // P4.2
	d := laid(t, texts{"w.new": "left over"})
	for _, size := range []int{0, -1, math.MinInt} {
		refused(t, "a wrong size", d, "w", size, api.ErrArg)
	}
	refused(t, "no disk", nil, "w", 1, api.ErrArg)
	refused(t, "no name", d, "", 1, api.ErrArg)
	refused(t, "41 bytes", d, strings.Repeat("n", 41), 1, api.ErrArg)
	refused(t, "40 runes of two bytes", d, strings.Repeat("é", 40), 1, api.ErrArg)
	holds(t, d, texts{"w.new": "left over"})
	opened(t, d, strings.Repeat("n", 40), math.MaxInt)
	opened(t, d, "n", 1)

	d.Arm(0)
	refused(t, "a disk that dies", d, "w", 1, api.ErrDead)
	refused(t, "a dead disk", d, "w", 1, api.ErrDead)
	refused(t, "a dead disk and a wrong size", d, "w", 0, api.ErrArg)
	refused(t, "a dead disk and no name", d, "", 1, api.ErrArg)
}

func TestOpenNew(t *testing.T) { // P4.2
	d := laid(t, texts{"other": "1"})
	l := opened(t, d, "w", 1)
	numbered(t, l, 1, 1)
	has(t, l)
	holds(t, d, texts{"other": "1", seg(1): ""})
}

func TestOpenOthersFiles(t *testing.T) { // P4.2: what is no segment is neither read nor touched
	others := texts{
		"w": "1", "w.": "2", "w.1": "3", "w.0000000000000000001": "4", "w.000000000000000000001": "5",
		"w.+0000000000000000001": "6", "w.-0000000000000000001": "7", "w.0000000000000000000a": "8", "w.a0000000000000000001": "9",
		"w.0000000000_000000001": "a", "w.0000000000.000000001": "b", "w.00000000000000000001.": "c", "w.00000000000000000001 ": "d",
		"w00000000000000000001": "e", "w_00000000000000000001": "f", "ww.00000000000000000001": "g", "W.00000000000000000001": "h",
		"x.00000000000000000001": "i", ".00000000000000000001": "j", "w.new.": "k", "w.New": "l", "wnew": "m", "w..new": "n", "x.new": "o",
		"w.\xd9\xa0\xd9\xa0\xd9\xa0\xd9\xa0\xd9\xa0\xd9\xa0\xd9\xa0\xd9\xa0\xd9\xa0\xd9\xa1": "p",
	}
	d := laid(t, others)
	numbered(t, opened(t, d, "w", 1), 1, 1)
	holds(t, d, with(others, texts{seg(1): ""}))

	d = laid(t, with(others, texts{seg(5): framed("a", "b")}))
	l := opened(t, d, "w", 1)
	numbered(t, l, 7, 5)
	has(t, l, "a", "b")
	holds(t, d, with(others, texts{seg(5): framed("a", "b")}))
}

func TestOpenSegments(t *testing.T) { // P4.2: by rising numbers, through all lengths of numbers
	d := laid(t, texts{
		seg(9): framed("a"), seg(10): framed("b", "", "c"), seg(13): framed(strings.Repeat("d", 300)),
		seg(14): framed(make([]string, 1000-14)...), seg(1000): framed("e"),
	})
	l := opened(t, d, "w", 1)
	numbered(t, l, 1001, 9, 10, 13, 14, 1000)
	has(t, l, append(append([]string{"a", "b", "", "c", strings.Repeat("d", 300)}, make([]string, 1000-14)...), "e")...)
	put(t, l, "f")
	numbered(t, l, 1002, 9, 10, 13, 14, 1000, 1001)
}

func TestOpenNumbers(t *testing.T) { // P4.2
	for name, e := range map[string]api.Errno{
		"w.00000000000000000000": api.ErrBroken,
		"w.00000000000000000001": api.OK,
		"w.09223372036854775807": api.OK,
		"w.09223372036854775808": api.OK,
		"w.09223372036854775809": api.ErrBroken,
		"w.18446744073709551615": api.ErrBroken,
		"w.18446744073709551616": api.ErrBroken,
		"w.18446744073709551617": api.ErrBroken,
		"w.99999999999999999999": api.ErrBroken,
	} {
		files := texts{name: ""}
		d := laid(t, files)
		_, got := Open(d, "w", 1)
		want(t, "Open of "+name, got, e)
		holds(t, d, files)
	}
}

func TestOpenGreatestNumber(t *testing.T) { // P4.2
	d := laid(t, texts{seg(1<<63 - 1): framed("a"), seg(1 << 63): framed("b")})
	l := opened(t, d, "w", 100)
	numbered(t, l, 1<<63+1, 1<<63-1, 1<<63)
	put(t, l, "c")
	numbered(t, l, 1<<63+2, 1<<63-1, 1<<63)
	has(t, l, "a", "b", "c")
}

func TestOpenBroken(t *testing.T) { // P4.2: and nothing is changed by it, but what is left over goes
	torn := framed("b")[:5]
	for what, files := range map[string]texts{
		"a number 0 alone":                     {seg(0): ""},
		"a number 0 that fits":                 {seg(0): framed("a"), seg(1): framed("b")},
		"a number 0 and a torn end":            {seg(0): framed("a"), seg(1): torn},
		"a great number alone":                 {seg(1<<63 + 1): framed("a")},
		"a great number with a torn end":       {seg(1<<63 + 1): torn},
		"a great number that fits":             {seg(1 << 63): framed("a"), seg(1<<63 + 1): framed("b")},
		"a number too great for 64 bits":       {seg(1): framed("a"), "w.18446744073709551618": framed("b")},
		"a torn frame in the first one":        {seg(1): framed("a") + torn, seg(2): framed("b")},
		"a torn frame counted as one":          {seg(1): framed("a") + torn, seg(3): framed("b")},
		"no frame in the first one":            {seg(1): "x", seg(2): framed("b")},
		"an empty one ahead of another":        {seg(1): "", seg(2): framed("b")},
		"a gap":                                {seg(1): framed("a"), seg(3): framed("b")},
		"a gap of one ahead of an empty one":   {seg(1): framed("a"), seg(3): ""},
		"one that begins too early":            {seg(1): framed("a", "b", "c"), seg(3): framed("d")},
		"one that begins too early by one":     {seg(1): framed("a", "b"), seg(2): framed("c")},
		"a gap behind the second one":          {seg(1): framed("a"), seg(2): framed("b"), seg(4): framed("c")},
		"a torn frame in the second one":       {seg(1): framed("a"), seg(2): framed("b") + torn, seg(3): framed("c")},
		"a gap ahead of a torn end":            {seg(1): framed("a"), seg(3): framed("c") + torn},
		"a torn frame ahead of a torn end":     {seg(1): framed("a") + torn, seg(2): framed("b") + torn},
		"a wrong sum in the first one":         {seg(1): "\x01\xe8\xb7\xbe\x44a", seg(2): framed("b")},
		"a byte behind the first one's frames": {seg(1): framed("a") + "\x00", seg(2): framed("b")},
	} {
		d := laid(t, with(files, texts{"other": "1", "w.new": "left over"}))
		refused(t, what, d, "w", 1, api.ErrBroken)
		holds(t, d, with(files, texts{"other": "1"}))
		d.Arm(0) // nothing is left over: nothing is changed
		refused(t, what+" once more", d, "w", 1, api.ErrBroken)
		if d.Dead() {
			t.Errorf("Open of %s changed the disk", what)
		}
	}
}

func TestOpenTornEnd(t *testing.T) { // P4.2, P4.7: each part of a frame, and what never was one
	tears := []string{"\x00", "\x80", "x", "\x01\xe8\xb7\xbe\x44a", framed("z")[1:], strings.Repeat("\x80", 20), strings.Repeat("\xff", 9) + "\x01"}
	tears = append(tears, "\x00\x00\x00\x00\x01"+framed("behind it"), framed("behind it")[:6]+framed("behind it"))
	for _, next := range []string{"", "a", strings.Repeat("b", 200)} {
		for size := 1; size < len(framed(next)); size++ {
			tears = append(tears, framed(next)[:size])
		}
	}
	for _, tear := range tears {
		for _, whole := range [][]string{nil, {"a"}, {"", "a", strings.Repeat("c", 300)}} {
			files := texts{seg(3): framed("1", "2"), seg(5): framed(whole...)}
			d := laid(t, with(files, texts{seg(5): framed(whole...) + tear, "w.new": "left over"}))
			l := opened(t, d, "w", 1)
			numbered(t, l, uint64(5+len(whole)), 3, 5)
			has(t, l, append([]string{"1", "2"}, whole...)...)
			holds(t, d, files)
			kept(t, d, files)
		}
	}
}

func TestFramesOfNothing(t *testing.T) { // P4.7: the bytes that are left happen to be whole frames
	d := laid(t, texts{seg(1): framed("a") + strings.Repeat("\x00", 14)})
	l := opened(t, d, "w", 1)
	has(t, l, "a", "", "")
	holds(t, d, texts{seg(1): framed("a", "", "")})
}

func TestOpenWritesBehindATornEnd(t *testing.T) { // P4.2: the bytes that were cut off don't count
	d := laid(t, texts{seg(1): framed("a") + framed("b")[:5]})
	l := opened(t, d, "w", 7)
	put(t, l, "c", "d")
	numbered(t, l, 4, 1, 3)
	holds(t, d, texts{seg(1): framed("a", "c"), seg(3): framed("d")})
	has(t, opened(t, d, "w", 7), "a", "c", "d")
}

func TestOpenSyncs(t *testing.T) { // P4.2: the whole log, and nothing else
	files := texts{seg(1): framed("a", "b"), seg(3): framed("c"), seg(4): framed("d")}
	d := laid(t, with(files, texts{"other": "1"}))
	opened(t, d, "w", 1)
	kept(t, d, with(files, texts{"other": ""}))
	d.Write(seg(4), []byte(framed("e")))
	opened(t, d, "w", 1)
	kept(t, d, with(files, texts{"other": "", seg(4): framed("d", "e")}))
}

func TestOpenLeftOver(t *testing.T) { // P4.2: removed, not used
	d := laid(t, texts{"w.new": framed("x"), seg(1): framed("a")})
	has(t, opened(t, d, "w", 1), "a")
	holds(t, d, texts{seg(1): framed("a")})

	d = laid(t, texts{"w.new": framed("x")})
	has(t, opened(t, d, "w", 1))
	holds(t, d, texts{seg(1): ""})

	d = laid(t, texts{"w.new": framed("x"), seg(1): framed("a") + "x"})
	has(t, opened(t, d, "w", 1), "a")
	holds(t, d, texts{seg(1): framed("a")})
}

func TestOpenBrokenOff(t *testing.T) { // P4.2, P4.6: by a disk that dies at any change, and keeps any part
	start := texts{seg(1): framed("a", "b"), seg(3): framed("c") + framed("d")[:4], "w.new": "left over"}
	changes := 7 // Remove; Write, Sync, Rename; Sync of each, and one is spare
	for left := range changes {
		for keep := range 20 {
			d := laid(t, start)
			d.Crash([]int{99, 99, 99})
			d.Arm(left)
			if left < changes-1 {
				refused(t, "a disk that dies", d, "w", 1, api.ErrDead)
			} else {
				opened(t, d, "w", 1)
			}
			d.Crash([]int{keep})
			l := opened(t, d, "w", 1)
			numbered(t, l, 4, 1, 3)
			has(t, l, "a", "b", "c")
			holds(t, d, texts{seg(1): framed("a", "b"), seg(3): framed("c")})
		}
	}
}

func TestOpenNewBrokenOff(t *testing.T) { // P4.2
	for left, e := range []api.Errno{api.ErrDead, api.ErrDead, api.OK} {
		d := disk.New()
		d.Arm(left)
		_, got := Open(d, "w", 1)
		want(t, "Open", got, e)
		d.Crash(nil)
		l := opened(t, d, "w", 1)
		numbered(t, l, 1, 1)
		has(t, l)
	}
}

func TestOpenFullDisk(t *testing.T) { // P4.2: no room for the file that is written anew, or for a first one's name alone
	d := laid(t, texts{seg(1): framed("a") + "x", "other": strings.Repeat("o", api.MaxDisk-7)})
	refused(t, "a full disk", d, "w", 1, api.ErrFull)
	if got := len(d.Names()); got != 2 {
		t.Errorf("Open of a full disk: files %q", d.Names())
	}
	d.Remove("other")
	has(t, opened(t, d, "w", 1), "a")

	d = laid(t, texts{"other": strings.Repeat("o", api.MaxDisk)})
	l := opened(t, d, "w", 1)
	numbered(t, l, 1, 1)
	_, e := l.Append(nil)
	want(t, "Append to a full disk", e, api.ErrFull)
	over(t, l)
}
