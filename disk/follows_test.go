package disk

import (
	"bytes"
	"math/rand/v2"
	"slices"
	"strings"
	"testing"

	"regatta/api"
)

// plain is a disk told in the plainest way: a list of files, and the state in
// words. What Disk answers is held against it.
type plain struct {
	files []plainFile
	armed bool
	left  int
	dead  bool
}

type plainFile struct{ name, synced, loose string }

func (p *plain) at(name string) int {
	return slices.IndexFunc(p.files, func(f plainFile) bool { return f.name == name })
}

func (p *plain) size() int {
	n := 0
	for _, f := range p.files {
		n += len(f.synced) + len(f.loose)
	}
	return n
}

// answer is what a change answers that would answer e if all were well with the disk.
func (p *plain) answer(e api.Errno) api.Errno {
	switch {
	case p.dead:
		return api.ErrDead
	case e != api.OK || !p.armed:
		return e
	case p.left <= 0:
		p.dead = true
		return api.ErrDead
	}
	p.left--
	return api.OK
}

func badName(name string) bool { return len(name) == 0 || len(name) > api.MaxName }

func (p *plain) write(name, text string) api.Errno {
	e := api.OK
	if badName(name) {
		e = api.ErrArg
	} else if p.size()+len(text) > api.MaxDisk {
		e = api.ErrFull
	}
	if e = p.answer(e); e != api.OK {
		return e
	}
	if p.at(name) < 0 {
		p.files = append(p.files, plainFile{name: name})
	}
	p.files[p.at(name)].loose += text
	return api.OK
}

func (p *plain) need(name string) api.Errno {
	if p.at(name) < 0 {
		return api.ErrFile
	}
	return api.OK
}

func (p *plain) sync(name string) api.Errno {
	e := p.answer(p.need(name))
	if e == api.OK {
		f := &p.files[p.at(name)]
		f.synced, f.loose = f.synced+f.loose, ""
	}
	return e
}

func (p *plain) remove(name string) api.Errno {
	e := p.answer(p.need(name))
	if e == api.OK {
		i := p.at(name)
		p.files = slices.Delete(p.files, i, i+1)
	}
	return e
}

func (p *plain) rename(from, to string) api.Errno {
	e := p.need(from)
	if e == api.OK && badName(to) {
		e = api.ErrArg
	}
	if e = p.answer(e); e != api.OK || from == to {
		return e
	}
	if i := p.at(to); i >= 0 {
		p.files = slices.Delete(p.files, i, i+1)
	}
	p.files[p.at(from)].name = to
	return api.OK
}

func (p *plain) crash(keep []int) {
	slices.SortFunc(p.files, func(a, b plainFile) int { return strings.Compare(a.name, b.name) })
	i := 0
	for n := range p.files {
		f := &p.files[n]
		if f.loose == "" {
			continue
		}
		if i < len(keep) && keep[i] > 0 {
			f.synced += f.loose[:min(keep[i], len(f.loose))]
		}
		f.loose = ""
		i++
	}
	p.armed, p.dead = false, false
}

// alike: the disk tells what the plain one has.
func alike(t *testing.T, d *Disk, p *plain) {
	t.Helper()
	if p.dead {
		if !d.Dead() || len(d.Names()) != 0 || d.Size() != 0 {
			t.Fatalf("a dead disk tells: dead %t, %q, %d bytes", d.Dead(), d.Names(), d.Size())
		}
		return
	}
	files := texts{}
	for _, f := range p.files {
		files[f.name] = f.synced + f.loose
	}
	holds(t, d, files)
}

func anyName(r *rand.Rand) string {
	return []string{"a", "b", "c", "ab", "\xff", "", strings.Repeat("n", api.MaxName), strings.Repeat("n", api.MaxName+1)}[r.IntN(8)]
}

// oneCall does the same to both, and tells what each answered.
func oneCall(r *rand.Rand, d *Disk, p *plain) (string, api.Errno, api.Errno) {
	name, to := anyName(r), anyName(r)
	switch r.IntN(12) {
	case 0, 1, 2, 3:
		text := strings.Repeat(string(rune('0'+r.IntN(10))), r.IntN(5))
		if r.IntN(40) == 0 {
			text = strings.Repeat("+", api.MaxDisk/3)
		}
		return "Write", d.Write(name, []byte(text)), p.write(name, text)
	case 4, 5:
		return "Sync", d.Sync(name), p.sync(name)
	case 6:
		return "Remove", d.Remove(name), p.remove(name)
	case 7, 8:
		return "Rename", d.Rename(name, to), p.rename(name, to)
	case 9:
		n := r.IntN(8) - 2
		d.Arm(n)
		p.armed, p.left = true, n
	default:
		var keep []int
		for range r.IntN(6) {
			keep = append(keep, r.IntN(9)-2)
		}
		d.Crash(keep)
		p.crash(keep)
	}
	return "Arm or Crash", api.OK, api.OK
}

func TestAgainstThePlainDisk(t *testing.T) { // P2.1 to P2.5
	for run := range 60 {
		r := rand.New(rand.NewPCG(1, uint64(run)))
		d, p := New(), &plain{}
		for step := range 100 {
			if what, got, e := oneCall(r, d, p); got != e {
				t.Fatalf("run %d, step %d: %s: error %d; want %d", run, step, what, got, e)
			}
			alike(t, d, p)
			if t.Failed() {
				t.Fatalf("run %d, step %d", run, step)
			}
		}
	}
}

func TestNothingIsLostWithEnoughKept(t *testing.T) { // P2.5
	d := New()
	files := texts{}
	for i := range 20 {
		name := string(rune('a' + i%7))
		text := strings.Repeat(name, i)
		d.Write(name, []byte(text))
		files[name] += text
		if i%3 == 0 {
			d.Sync(name)
		}
	}
	d.Crash(slices.Repeat([]int{api.MaxDisk}, len(files)))
	holds(t, d, files)
}

func TestABeginningStays(t *testing.T) { // P2.5: for each number that may be kept
	for kept := -1; kept <= 7; kept++ {
		d := made(t, texts{"a": "12"}, texts{"a": "34567"})
		d.Crash([]int{kept})
		holds(t, d, texts{"a": "1234567"[:2+min(max(kept, 0), 5)]})
	}
}

func TestDisksHaveNothingInCommon(t *testing.T) { // P2.5
	a, b := New(), New()
	a.Write("f", []byte("1"))
	holds(t, b, nil)
	b.Write("f", []byte("22"))
	b.Sync("f")
	a.Arm(0)
	a.Sync("f")
	silent(t, a)
	holds(t, b, texts{"f": "22"})
	b.Crash(nil)
	silent(t, a)
	a.Crash(nil)
	holds(t, a, texts{"f": ""})
	holds(t, b, texts{"f": "22"})
}

func TestHandedInIsNotKept(t *testing.T) { // R3
	b := []byte("12345678")
	d := New()
	d.Write("a", b[:2])
	d.Write("a", b[2:4])
	if string(b) != "12345678" {
		t.Errorf("Write changed what it was handed: %q", b)
	}
	for i := range b {
		b[i] = '!'
	}
	holds(t, d, texts{"a": "1234"})
	d.Write("a", []byte("x"))
	if string(b) != "!!!!!!!!" {
		t.Errorf("a later Write went into what was handed in: %q", b)
	}
	d.Sync("a")
	d.Write("a", []byte("yz"))
	keep := []int{1, 7}
	d.Crash(keep)
	if !slices.Equal(keep, []int{1, 7}) {
		t.Errorf("Crash changed what it was handed: %v", keep)
	}
}

func TestToldIsNewMemory(t *testing.T) { // P2.5, R3
	d := made(t, texts{"a": "12", "b": "3"}, nil)
	one, _ := d.Read("a")
	two, _ := d.Read("a")
	one[0] = '!'
	_ = append(one, "!!!!"...)
	if !bytes.Equal(two, []byte("12")) {
		t.Errorf("two Reads share memory: %q", two)
	}
	names := d.Names()
	names[0] = "!"
	_ = append(names[:1], "!")
	holds(t, d, texts{"a": "12", "b": "3"})
	told, _ := d.Read("a")
	d.Write("a", []byte("4"))
	d.Crash(nil)
	d.Write("a", []byte("567"))
	_ = append(told, "!!!"...)
	holds(t, d, texts{"a": "12567", "b": "3"})
}
