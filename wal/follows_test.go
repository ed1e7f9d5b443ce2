package wal

import (
	"math/rand/v2"
	"slices"
	"strings"
	"testing"

	"regatta/api"
	"regatta/disk"
)

// plain is a log told in the plainest way: all records that ever were, by
// their numbers, and where segments begin. What Log answers is held against it.
type plain struct {
	size   int
	ever   []string
	begins []uint64
	sure   uint64 // records below this number are synced
}

func (p *plain) next() uint64 { return uint64(len(p.ever)) + 1 }

func (p *plain) records() []string { return p.ever[p.begins[0]-1:] }

func (p *plain) append(text string) {
	last := p.begins[len(p.begins)-1]
	if len(framed(p.ever[last-1:]...)) >= p.size {
		p.sure = p.next()
		p.begins = append(p.begins, p.next())
	}
	p.ever = append(p.ever, text)
}

func (p *plain) cut(index uint64) {
	for len(p.begins) > 1 && p.begins[1] <= index {
		p.begins = p.begins[1:]
	}
}

func (p *plain) alike(t *testing.T, l *Log) {
	t.Helper()
	numbered(t, l, p.next(), p.begins...)
	has(t, l, p.records()...)
}

// behindACrash: what is synced is there, and a beginning of the rest; the plain log goes on from that.
func (p *plain) behindACrash(t *testing.T, l *Log, fewest uint64) {
	t.Helper()
	if l.Next() < fewest || l.Next() > p.next() {
		t.Fatalf("behind a crash: Next %d; want %d to %d", l.Next(), fewest, p.next())
	}
	p.ever = p.ever[:l.Next()-1]
	p.sure = l.Next()
	p.alike(t, l)
}

func anyRecord(r *rand.Rand) string {
	size := r.IntN(9)
	if r.IntN(20) == 0 {
		size = r.IntN(400)
	}
	return strings.Repeat(string(rune('a'+r.IntN(26))), size)
}

func anyKeep(r *rand.Rand) []int {
	var keep []int
	for range r.IntN(4) {
		keep = append(keep, r.IntN(30)-2)
	}
	return keep
}

// reopened: the disk crashes till an Open is not broken off.
func reopened(t *testing.T, r *rand.Rand, d *disk.Disk, size int) *Log {
	t.Helper()
	for range 4 {
		d.Crash(anyKeep(r))
		d.Arm(r.IntN(8))
		if l, e := Open(d, "w", size); e != api.ErrDead {
			want(t, "Open", e, api.OK)
			d.Crash(nil) // nothing is armed any more, and nothing is lost by it
			return l
		}
	}
	d.Crash(anyKeep(r))
	return opened(t, d, "w", size)
}

// oneCall does the same to both; false: the disk refused it.
func oneCall(t *testing.T, r *rand.Rand, l *Log, p *plain) bool {
	t.Helper()
	switch r.IntN(8) {
	case 0:
		e := l.Sync()
		if e == api.OK {
			p.sure = p.next()
		}
		return e == api.OK
	case 1:
		index := l.First() + uint64(r.IntN(8))
		e := l.Cut(index)
		if e != api.OK { // some are gone: the first ones, and none that should stay
			index = min(index, l.First())
		}
		p.cut(index)
		return e == api.OK
	default:
		text := anyRecord(r)
		p.append(text)
		_, e := l.Append([]byte(text))
		return e == api.OK
	}
}

func TestAgainstThePlainLog(t *testing.T) { // P4.1 to P4.6
	for run := range 300 {
		r := rand.New(rand.NewPCG(4, uint64(run)))
		d, size := disk.New(), 1+r.IntN(40)
		l := opened(t, d, "w", size)
		p := &plain{size: size, begins: []uint64{1}, sure: 1}
		for step := range 60 {
			if r.IntN(12) == 0 {
				d.Arm(r.IntN(6))
			}
			sure := p.sure
			if !oneCall(t, r, l, p) {
				over(t, l)
				l = reopened(t, r, d, size)
				p.refused(l)
				p.behindACrash(t, l, sure)
			} else if r.IntN(12) == 0 {
				l = reopened(t, r, d, size)
				p.behindACrash(t, l, p.sure)
			}
			p.alike(t, l)
			if t.Failed() {
				t.Fatalf("run %d, step %d", run, step)
			}
		}
	}
}

// refused: a segment whose first frame the disk refused was never begun.
func (p *plain) refused(l *Log) {
	if last := len(p.begins) - 1; last > 0 && p.begins[last] > slices.Max(l.Segments()) {
		p.begins = p.begins[:last]
	}
}

func TestKeptAtEachCall(t *testing.T) { // P4.6: the disk dies at any change, and keeps any part
	records := []string{"one", "", "three", "4444444444", "5", "six"}
	for left := range 16 {
		for keep := range 12 {
			d := disk.New()
			l := opened(t, d, "w", 12)
			d.Arm(left)
			done, sure := 0, 0
			for i, text := range records {
				if _, e := l.Append([]byte(text)); e != api.OK {
					break
				}
				done = i + 1
				if i%3 == 2 && l.Sync() == api.OK {
					sure = done
				}
			}
			d.Crash([]int{keep})
			l = opened(t, d, "w", 12)
			got := int(l.Next() - 1)
			if got < sure || got > done {
				t.Errorf("dead at change %d, %d bytes kept: %d records; want %d to %d", left, keep, got, sure, done)
			}
			has(t, l, records[:min(got, done)]...)
			put(t, l, "behind it")
			want(t, "Sync", l.Sync(), api.OK)
			d.Crash(nil)
			has(t, opened(t, d, "w", 12), append(slices.Clone(records[:got]), "behind it")...)
		}
	}
}

func TestNothingIsLostWithEnoughKept(t *testing.T) { // P4.6
	d := disk.New()
	l := opened(t, d, "w", 1000)
	records := []string{"a", "", strings.Repeat("b", 500), "c"}
	put(t, l, records...)
	d.Crash([]int{api.MaxDisk})
	has(t, opened(t, d, "w", 1000), records...)
}

func TestOpenedAgainIsTheSame(t *testing.T) { // P4.7
	d := disk.New()
	l := opened(t, d, "w", 20)
	for i := range 30 {
		put(t, l, strings.Repeat("r", i%11))
	}
	l.Cut(7)
	d.Crash([]int{9})
	one := opened(t, d, "w", 20)
	var records []string
	for i := one.First(); i < one.Next(); i++ {
		b, e := one.Get(i)
		want(t, "Get", e, api.OK)
		records = append(records, string(b))
	}
	files := texts{}
	for _, name := range d.Names() {
		b, _ := d.Read(name)
		files[name] = string(b)
	}
	two := opened(t, d, "w", 20)
	numbered(t, two, one.Next(), one.Segments()...)
	has(t, two, records...)
	holds(t, d, files)
	kept(t, d, files)
}

func TestTornIsNoRecord(t *testing.T) { // P4.7: wherever the last segment is torn, its whole frames are read and no others
	records := []string{"aaa", "", "b", strings.Repeat("c", 130), "d"}
	whole := framed(records...)
	for size := range len(whole) + 1 {
		count := 0
		for len(framed(records[:count+1]...)) <= size {
			if count++; count == len(records) {
				break
			}
		}
		d := laid(t, texts{seg(1): whole[:size]})
		has(t, opened(t, d, "w", 1), records[:count]...)
		holds(t, d, texts{seg(1): framed(records[:count]...)})
	}
}

func TestTurnedByte(t *testing.T) { // P4.8: no other record with its sum comes of a turned byte here
	first, second := framed("aa", "", "b"), framed("cc", "dd")
	for at := range len(first) + len(second) {
		for turn := 1; turn < 256; turn++ {
			both := []byte(first + second)
			both[at] ^= byte(turn)
			files := texts{seg(1): string(both[:len(first)]), seg(4): string(both[len(first):]), seg(6): framed("e")}
			d := laid(t, files)
			refused(t, "a turned byte", d, "w", 1, api.ErrBroken)
			holds(t, d, files)
		}
	}
}

func TestTurnedByteOfTheLast(t *testing.T) { // P4.7: it ends there
	records := []string{"aa", "", "b"}
	for at := range framed(records...) {
		b := []byte(framed(records...))
		b[at] ^= 1
		count := 0
		for len(framed(records[:count+1]...)) <= at {
			count++
		}
		has(t, opened(t, laid(t, texts{seg(1): string(b)}), "w", 1), records[:count]...)
	}
}

func TestManyFrames(t *testing.T) { // R1: a long segment is read in one walk, not anew for each frame
	d := laid(t, texts{seg(1): strings.Repeat(framed(""), 1<<20)})
	if l := opened(t, d, "w", 1); l.Next() != 1<<20+1 {
		t.Errorf("Next %d; want %d", l.Next(), 1<<20+1)
	}
}
