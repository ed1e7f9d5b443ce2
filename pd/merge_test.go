package pd

import (
	"fmt"
	"testing"

	"regatta/api"
)

func wantMerge(t *testing.T, p *Driver, id uint64, status int, source, target string) {
	t.Helper()
	want(t, fmt.Sprintf("Merge(%d)", id), toldMerge(p.Merge(id)), toldMerge(regionOf(source), regionOf(target), status))
}

func wantNoMerge(t *testing.T, p *Driver, id uint64) {
	t.Helper()
	want(t, fmt.Sprintf("Merge(%d)", id), toldMerge(p.Merge(id)), toldMerge(api.Region{}, api.Region{}, api.MergeNone))
}

func TestMergeErrors(t *testing.T) { // P16.1: ErrArg of all that region.Merge refuses, ahead of ErrKnown
	p := New(1)
	script(t, p, "merge 1: 7 m - 1/2 into 1 - m 1/2 -> ok open")
	for _, s := range []string{
		"0: 9 m - 1/2 into 8 - m 1/2", "0: 7 m - 1/2 into 1 - m 1/2",
		"%d: 0 m - 1/2 into 8 - m 1/2", "%d: 9 m - 1/2 into 0 - m 1/2", "%d: 9 m - 1/2 into 9 - m 1/2", "%d: 7 m - 1/2 into 7 - m 1/2",
		"%d: 9 n - 1/2 into 8 - m 1/2", "%d: 9 - - 1/2 into 8 - - 1/2", "%d: 9 a m 1/2 into 8 - m 1/2", "%d: 9 m l 1/2 into 8 - m 1/2", "%d: 7 n - 1/2 into 1 - m 1/2",
		"%d: 9 m - 1/2 1@1 into 8 - m 1/2 1@2", "%d: 9 m - 1/2 1@1,2@2 into 8 - m 1/2 1@1,2@2~", "%d: 9 m - 1/2 1@1,2@2 into 8 - m 1/2 1@1", "%d: 9 m - 1/2 1@0 into 8 - m 1/2 1@0",
	} {
		for id := range 3 {
			text := s
			if s[0] == '%' {
				text = fmt.Sprintf(s, id)
			}
			want(t, text, told(do(t, p, of("merge "+text))), "arg")
		}
	}
	wantNoMerge(t, p, 0)
	wantNoMerge(t, p, 2)
	wantMerge(t, p, 1, api.MergeOpen, "7 m - 1/2", "1 - m 1/2")
}

func TestMergeBothWays(t *testing.T) { // P16.1: the source may lie ahead of the target, too; other numbers on the same stores
	p := New(1)
	script(t, p, "merge 5: 1 - m 1/2 3@1,4@2~ into 7 m - 9/9 1@1,8@2~ -> ok open\nmerge 6: 3 b c 0/0 into 2 a b 0/0 -> ok open\nmerge top: 13 b c 0/0 into 12 a b 0/0 -> ok open")
	wantMerge(t, p, 5, api.MergeOpen, "1 - m 1/2 3@1,4@2~", "7 m - 9/9 1@1,8@2~")
	wantMerge(t, p, 6, api.MergeOpen, "3 b c 0/0", "2 a b 0/0")
}

func TestMergeKnown(t *testing.T) { // P16.1: its number, or a region that is in an open one
	p := New(1)
	script(t, p, `
		merge 1: 7 m - 1/2 into 1 - m 1/2 -> ok open
		merge 1: 7 m - 1/2 into 1 - m 1/2 -> known
		merge 1: 9 m - 1/2 into 8 - m 1/2 -> known
		merge 2: 7 m - 1/2 into 8 - m 1/2 -> known
		merge 2: 8 m - 1/2 into 7 - m 1/2 -> known
		merge 2: 1 m - 1/2 into 8 - m 1/2 -> known
		merge 2: 8 m - 1/2 into 1 - m 1/2 -> known
		merge 2: 9 m - 1/2 into 8 - m 1/2 -> ok open
		merge 3: 9 a b 1/2 into 1 b c 1/2 -> known
		decide 1 back -> ok back
		merge 3: 9 a b 1/2 into 1 b c 1/2 -> known
		merge 1: 7 m - 1/2 into 1 - m 1/2 -> known
		merge 1: 17 m - 1/2 into 11 - m 1/2 -> known
		merge 3: 7 m - 1/2 into 1 - m 1/2 -> ok open
		decide 3 commit -> ok commit
		decide 2 commit -> ok commit
		merge 3: 7 m - 1/2 into 1 - m 1/2 -> known
		merge 2: 7 m - 1/2 into 1 - m 1/2 -> known
		merge 4: 9 a b 1/2 into 1 b c 1/2 -> ok open
		merge 5: 7 m - 1/2 into 8 - m 1/2 -> ok open`)
	wantMerge(t, p, 1, api.MergeBack, "7 m - 1/2", "1 - m 1/2")
	wantMerge(t, p, 2, api.MergeCommit, "9 m - 1/2", "8 - m 1/2")
	wantMerge(t, p, 3, api.MergeCommit, "7 m - 1/2", "1 - m 1/2")
	wantMerge(t, p, 4, api.MergeOpen, "9 a b 1/2", "1 b c 1/2")
	o := copyOf(t, p)
	script(t, o, "merge 6: 8 m - 1/2 into 6 - m 1/2 -> known\ndecide 5 back -> ok back\nmerge 6: 8 m - 1/2 into 6 - m 1/2 -> ok open")
	wantMerge(t, p, 5, api.MergeOpen, "7 m - 1/2", "8 - m 1/2")
}

func TestFullOfMerges(t *testing.T) { // P16.1: 64 that are open; behind ErrKnown
	p := New(1)
	merge := func(id int) string { return fmt.Sprintf("merge %d: %d m - 1/2 into %d - m 1/2", id, 2*id, 2*id+1) }
	for id := range maxOpen {
		script(t, p, merge(id+1)+" -> ok open")
	}
	script(t, p, merge(65)+" -> full\n"+merge(1)+" -> known\nmerge 65: 2 m - 1/2 into 300 - m 1/2 -> known\nmerge 65: 300 m - 1/2 into 300 - m 1/2 -> arg")
	o := copyOf(t, p)
	script(t, o, merge(65)+" -> full\ndecide 7 commit -> ok commit\n"+merge(65)+" -> ok open\n"+merge(66)+" -> full")
	script(t, p, merge(65)+" -> full\ndecide 64 back -> ok back\ndecide 1 commit -> ok commit\n"+merge(65)+" -> ok open\n"+merge(66)+" -> ok open\n"+merge(67)+" -> full")
	for id := range 200 {
		script(t, p, fmt.Sprintf("decide %d commit -> ok commit\n%s -> ok open", id+65, merge(id+67)))
	}
	wantMerge(t, p, 200, api.MergeCommit, "400 m - 1/2", "401 - m 1/2")
	script(t, copyOf(t, p), "decide 200 back -> ok commit\n"+merge(5000)+" -> full")
}

func TestDecide(t *testing.T) { // P16.1, P16.4
	p := New(1)
	script(t, p, `
		decide 0 commit -> arg
		decide 1 back -> arg
		merge 1: 7 m - 1/2 into 1 - m 1/2 -> ok open
		merge 2: 9 m - 1/2 into 8 - m 1/2 -> ok open
		decide 3 commit -> arg
		decide 1 commit -> ok commit
		decide 2 back -> ok back
		decide 1 commit -> ok commit
		decide 1 back -> ok commit
		decide 2 commit -> ok back
		decide 2 back -> ok back
		decide 0 commit -> arg`)
	o := copyOf(t, p)
	script(t, o, "decide 1 back -> ok commit\ndecide 2 commit -> ok back")
	wantMerge(t, o, 1, api.MergeCommit, "7 m - 1/2", "1 - m 1/2")
	wantMerge(t, o, 2, api.MergeBack, "9 m - 1/2", "8 - m 1/2")
}

func TestDecideAgainFreesNothing(t *testing.T) { // P16.1: a region may be in a later merge when an older one is decided again
	p := New(1)
	script(t, p, `
		merge 1: 7 m - 1/2 into 1 - m 1/2 -> ok open
		decide 1 back -> ok back
		merge 2: 7 m - 1/2 into 1 - m 1/2 -> ok open
		decide 1 back -> ok back
		decide 1 commit -> ok back
		merge 3: 7 m - 1/2 into 5 - m 1/2 -> known`)
	wantMerge(t, p, 2, api.MergeOpen, "7 m - 1/2", "1 - m 1/2")
}

func TestMergesAndRegionsApart(t *testing.T) { // P16.1: what is known of regions does not matter to a merge, nor the other way
	p := New(1)
	script(t, p, "merge 1: 7 m - 1/2 into 1 - m 1/2 -> ok open\nregion 3 - - 1/1 -> ok\nregion 7 m - 0/9 -> ok\ndecide 1 commit -> ok commit")
	wantRegions(t, p, "7 m - 0/9")
	wantMerge(t, p, 1, api.MergeCommit, "7 m - 1/2", "1 - m 1/2")
}

func TestOpenMerges(t *testing.T) {
	p := New(1)
	want(t, "Open of none", len(p.Open()), 0)
	script(t, p, `
		merge 30: 7 m - 1/2 into 1 - m 1/2 -> ok open
		merge 4: 9 m - 1/2 into 8 - m 1/2 -> ok open
		merge top: 11 m - 1/2 into 10 - m 1/2 -> ok open
		merge 5: 13 m - 1/2 into 12 - m 1/2 -> ok open
		decide 5 back -> ok back`)
	want(t, "Open", fmt.Sprint(p.Open()), "[4 30 18446744073709551615]")
	script(t, p, "decide 4 commit -> ok commit\ndecide top back -> ok back")
	want(t, "Open", fmt.Sprint(p.Open()), "[30]")
	want(t, "Open of a copy", fmt.Sprint(copyOf(t, p).Open()), "[30]")
}

func TestSwallowed(t *testing.T) { // a source is in its target when that was seen at a later Version
	p := New(1)
	wantSwallowed := func(ids ...uint64) {
		t.Helper()
		for _, d := range []*Driver{p, copyOf(t, p)} {
			var got []uint64
			for id := range uint64(20) {
				if d.Swallowed(id) {
					got = append(got, id)
				}
			}
			want(t, "Swallowed", fmt.Sprint(got), fmt.Sprint(ids))
		}
	}
	script(t, p, "region 1 - m 1/2 -> ok\nregion 7 m - 1/2 -> ok\nmerge 2: 7 m - 1/2 into 1 - m 1/2 -> ok open")
	wantSwallowed()
	script(t, p, "decide 2 commit -> ok commit")
	wantSwallowed()
	script(t, p, "region 1 - m 5/2 -> ok") // other members say nothing
	wantSwallowed()
	script(t, p, "region 1 - - 5/3 -> ok")
	wantSwallowed(7)
	// One that was given up is not, whatever comes of the target.
	script(t, p, "region 1 - m 5/4 -> ok\nregion 9 m - 5/4 -> ok\nmerge 3: 9 m - 5/4 into 1 - m 5/4 -> ok open\ndecide 3 back -> ok back\nregion 1 - k 5/5 -> ok")
	wantSwallowed(7)
	// The target may be known no more, as it is in another one, or be a later merge's target that is not told yet.
	script(t, p, "merge 4: 12 c d 1/1 into 11 d e 1/1 -> ok open\ndecide 4 commit -> ok commit")
	wantSwallowed(7)
	script(t, p, "merge 5: 11 c e 1/2 into 14 e f 1/1 -> ok open")
	wantSwallowed(7, 12)
	script(t, p, "decide 5 commit -> ok commit\nmerge 6: 15 f g 1/1 into 14 c f 1/3 -> ok open")
	wantSwallowed(7, 11, 12)
	// The same Version says nothing.
	script(t, p, "merge 7: 17 x y 1/4 into 16 w x 1/6 -> ok open\ndecide 7 commit -> ok commit\nmerge 8: 16 w x 3/6 into 18 v w 1/1 -> ok open")
	wantSwallowed(7, 11, 12)
}
