package mvcc

import (
	"bytes"
	"reflect"
	"testing"

	"regatta/api"
)

// sample is an image with a cell of each sort.
func sample(t *testing.T) api.Image {
	s := New()
	script(t, s, `
		floor at:4 -> ok
		gc at:3 -> ok
		prewrite @5 a=1 b~ -> ok at:6
		commit @5 at:8 a b -> ok
		rollback @7 a -> ok
		prewrite @9 a=2 c! d~ +async with:c,d -> ok at:10
		pess @11 for:12 e -> ok
		rollback @13 f -> ok
		rollback @8 f -> ok`)
	return s.Image()
}

func TestImage(t *testing.T) { // P11.2
	x := sample(t)
	is := api.Image{Floor: 4, GC: 3, Cells: []api.Cell{
		{Key: key("a"), Locked: true, Lock: api.Lock{Kind: api.KindPut, Key: key("a"), Primary: key("a"), Value: key("2"), Start: 9, MinCommit: 10, Async: true, Secondaries: keys("c,d")},
			Writes: []api.Write{{Kind: api.KindPut, Commit: 8, Start: 5, Value: key("1")}, {Kind: api.KindRollback, Commit: 7, Start: 7}}},
		{Key: key("b"), Writes: []api.Write{{Kind: api.KindDelete, Commit: 8, Start: 5}}},
		{Key: key("c"), Locked: true, Lock: api.Lock{Kind: api.KindLock, Key: key("c"), Primary: key("a"), Start: 9, MinCommit: 10, Async: true}},
		{Key: key("d"), Locked: true, Lock: api.Lock{Kind: api.KindDelete, Key: key("d"), Primary: key("a"), Start: 9, MinCommit: 10, Async: true}},
		{Key: key("e"), Locked: true, Lock: api.Lock{Kind: api.KindPess, Key: key("e"), Primary: key("e"), Start: 11, ForUpdate: 12, MinCommit: 13}},
		{Key: key("f"), Writes: []api.Write{{Kind: api.KindRollback, Commit: 13, Start: 13}, {Kind: api.KindRollback, Commit: 8, Start: 8}}},
	}}
	if !reflect.DeepEqual(x, is) {
		t.Errorf("Image: %+v; want %+v", x, is)
	}
	s, e := Load(x)
	want(t, "Load", e, api.OK)
	if !reflect.DeepEqual(s.Image(), is) {
		t.Errorf("Image of what was loaded: %+v; want %+v", s.Image(), is)
	}
	// What was loaded is a store like any other.
	script(t, s, `
		get a 9 -> =1
		get a 10 -> locked a {put a=2 by:a @9 min:10 +async with:c,d}
		get a 2 -> tooold
		commit @9 at:20 a c d -> ok
		prewrite @4 z=1 -> tooold z
		size -> 22
		get d 20 -> none
		get a 20 -> =2`)
}

// loads: does Load take the sample, turned so?
func loads(t *testing.T, what string, turn func(x *api.Image), is api.Errno) {
	t.Helper()
	x := sample(t)
	turn(&x)
	s, e := Load(x)
	want(t, what, e, is)
	if (s == nil) != (is != api.OK) {
		t.Errorf("%s: a store beside an error, or none", what)
	}
	if s != nil {
		copyOf(t, s)
	}
}

func TestLoadTimes(t *testing.T) { // P11.2
	for _, n := range []uint64{0, 1, far - 1, far, far + 1, 1<<64 - 1} {
		is := api.OK
		if n >= far {
			is = api.ErrArg
		}
		loads(t, "the floor", func(x *api.Image) { x.Floor = n }, is)
		loads(t, "the gc", func(x *api.Image) { x.GC = n }, is)
		loads(t, "a lock's ForUpdate", func(x *api.Image) { x.Cells[0].Lock.ForUpdate = n }, is)
		if n == 0 {
			is = api.ErrArg
		}
		loads(t, "a lock's Start", func(x *api.Image) { x.Cells[0].Lock.Start, x.Cells[0].Lock.MinCommit = n, n+1 }, is)
		loads(t, "a rollback's Start", func(x *api.Image) { x.Cells[5].Writes = []api.Write{{Kind: api.KindRollback, Commit: n, Start: n}} }, is)
		loads(t, "a delete's Start", func(x *api.Image) {
			x.Cells[1].Writes = []api.Write{{Kind: api.KindDelete, Commit: max(n, far), Start: n}}
		}, is)
	}
	for n, is := range map[uint64]api.Errno{0: api.ErrArg, 8: api.ErrArg, 9: api.ErrArg, 10: api.OK, far - 1: api.OK, far: api.OK, far + 1: api.ErrArg, 1<<64 - 1: api.ErrArg} {
		loads(t, "a lock's MinCommit", func(x *api.Image) { x.Cells[0].Lock.MinCommit = n }, is)
	}
	for n, is := range map[uint64]api.Errno{0: api.ErrArg, 4: api.ErrArg, 5: api.OK, 6: api.OK, far: api.OK, far + 1: api.ErrArg, 1<<64 - 1: api.ErrArg} {
		loads(t, "a write's Commit", func(x *api.Image) { x.Cells[1].Writes[0].Commit = n }, is)
	}
	for n, is := range map[uint64]api.Errno{0: api.ErrArg, 7: api.ErrArg, 8: api.OK, 9: api.ErrArg, far: api.ErrArg} {
		loads(t, "a rollback's Commit", func(x *api.Image) { x.Cells[5].Writes[1].Commit = n }, is)
	}
	for n, is := range map[uint64]api.Errno{0: api.ErrArg, 10: api.ErrArg, 11: api.OK, 12: api.OK, 90: api.OK, far - 1: api.OK, far: api.ErrArg} {
		loads(t, "ForUpdate of a KindPess", func(x *api.Image) { x.Cells[4].Lock.ForUpdate = n }, is)
	}
}

func TestLoadKeys(t *testing.T) { // P11.2
	longest, longer := key("*64"), key("*65")
	for _, k := range [][]byte{nil, {}, longer} {
		loads(t, "a cell's key", func(x *api.Image) { x.Cells = x.Cells[:1]; x.Cells[0].Key = k; x.Cells[0].Locked = false }, api.ErrArg)
		loads(t, "a locked cell's key", func(x *api.Image) { x.Cells = x.Cells[:1]; x.Cells[0].Key, x.Cells[0].Lock.Key = k, k }, api.ErrArg)
		loads(t, "a lock's primary", func(x *api.Image) { x.Cells[2].Lock.Primary = k }, api.ErrArg)
		loads(t, "a secondary", func(x *api.Image) { x.Cells[0].Lock.Secondaries[1] = k }, api.ErrArg)
	}
	loads(t, "the longest keys", func(x *api.Image) {
		c := &x.Cells[5]
		c.Key, c.Locked = longest, true
		c.Lock = api.Lock{Kind: api.KindPut, Key: longest, Primary: longest, Start: 1, MinCommit: 2, Async: true, Secondaries: [][]byte{longest, longest}}
	}, api.OK)
	loads(t, "a lock with another key", func(x *api.Image) { x.Cells[0].Lock.Key = key("b") }, api.ErrArg)
	loads(t, "a lock without a key", func(x *api.Image) { x.Cells[2].Lock.Key = nil }, api.ErrArg)
	loads(t, "keys that fall", func(x *api.Image) { x.Cells[1], x.Cells[5] = x.Cells[5], x.Cells[1] }, api.ErrArg)
	loads(t, "a key twice", func(x *api.Image) { x.Cells[5].Key = key("e") }, api.ErrArg)
	loads(t, "no cells", func(x *api.Image) { x.Cells = nil }, api.OK)
	loads(t, "a secondary that is the primary", func(x *api.Image) { x.Cells[0].Lock.Secondaries = keys("a,a") }, api.OK)
}

func TestLoadLocks(t *testing.T) { // P11.2
	for kind, is := range map[int]api.Errno{-1: api.ErrArg, 0: api.ErrArg, api.KindPut: api.OK, api.KindDelete: api.OK, api.KindLock: api.OK, api.KindRollback: api.ErrArg, 6: api.ErrArg} {
		loads(t, "a lock's kind", func(x *api.Image) { x.Cells[2].Lock.Kind = kind }, is)
	}
	loads(t, "KindPess with too low a ForUpdate", func(x *api.Image) { x.Cells[2].Lock.Kind = api.KindPess }, api.ErrArg)
	loads(t, "KindPess", func(x *api.Image) { x.Cells[2].Lock.Kind, x.Cells[2].Lock.ForUpdate = api.KindPess, 9 }, api.OK)
	loads(t, "a longest value", func(x *api.Image) { x.Cells[0].Lock.Value = make([]byte, api.MaxValue) }, api.OK)
	loads(t, "a longer value", func(x *api.Image) { x.Cells[0].Lock.Value = make([]byte, api.MaxValue+1) }, api.ErrArg)
	loads(t, "an empty value", func(x *api.Image) { x.Cells[0].Lock.Value = []byte{} }, api.OK)
	for _, i := range []int{2, 3, 4} {
		loads(t, "a value of another kind", func(x *api.Image) { x.Cells[i].Lock.Value = key("v") }, api.ErrArg)
		loads(t, "an empty value of another kind", func(x *api.Image) { x.Cells[i].Lock.Value = []byte{} }, api.OK)
		loads(t, "secondaries at another key", func(x *api.Image) { x.Cells[i].Lock.Secondaries, x.Cells[i].Lock.Primary = keys("q"), key("z") }, api.ErrArg)
		loads(t, "no secondaries at another key", func(x *api.Image) { x.Cells[i].Lock.Secondaries = [][]byte{} }, api.OK)
	}
	loads(t, "secondaries without async", func(x *api.Image) { x.Cells[0].Lock.Async = false }, api.ErrArg)
	loads(t, "no secondaries without async", func(x *api.Image) { x.Cells[0].Lock.Async, x.Cells[0].Lock.Secondaries = false, nil }, api.OK)
	loads(t, "no secondaries with async", func(x *api.Image) { x.Cells[0].Lock.Secondaries = nil }, api.OK)
}

// A Lock where Locked is false is passed over, whatever it says.
func TestLoadWithoutLocks(t *testing.T) { // P11.2
	for _, l := range []api.Lock{{Kind: 77}, {Key: key("q"), Start: far}, sample(t).Cells[0].Lock} {
		x := sample(t)
		x.Cells[1].Lock = l
		s, e := Load(x)
		want(t, "Load", e, api.OK)
		wantText(t, "the image", image(s), toldImage(sample(t)))
		script(t, s, "get b 9 -> none")
		script(t, s, "rollback @9 b -> ok")
	}
	loads(t, "a cell with nothing", func(x *api.Image) { x.Cells[1].Writes = nil }, api.ErrArg)
	loads(t, "a cell with a lock that is passed over, and nothing", func(x *api.Image) { x.Cells[0].Locked, x.Cells[0].Writes = false, []api.Write{} }, api.ErrArg)
	loads(t, "a cell with a lock alone", func(x *api.Image) { x.Cells[0].Writes = nil }, api.OK)
}

func TestLoadWrites(t *testing.T) { // P11.2
	put := func(start, commit uint64) api.Write {
		return api.Write{Kind: api.KindPut, Start: start, Commit: commit}
	}
	del := func(start, commit uint64) api.Write {
		return api.Write{Kind: api.KindDelete, Start: start, Commit: commit}
	}
	lock := func(start, commit uint64) api.Write {
		return api.Write{Kind: api.KindLock, Start: start, Commit: commit}
	}
	roll := func(start uint64) api.Write {
		return api.Write{Kind: api.KindRollback, Start: start, Commit: start}
	}
	rows := []struct {
		l []api.Write
		e api.Errno
	}{
		{[]api.Write{put(7, 8), put(5, 6), put(3, 4)}, api.OK}, {[]api.Write{put(5, 6), put(7, 8)}, api.ErrArg}, {[]api.Write{put(7, 8), put(3, 4), put(5, 6)}, api.ErrArg},
		{[]api.Write{put(5, 8), roll(8)}, api.OK}, {[]api.Write{roll(8), put(5, 8)}, api.ErrArg}, {[]api.Write{put(5, 8), put(6, 8), roll(8)}, api.OK}, {[]api.Write{put(6, 8), put(5, 8)}, api.ErrArg},
		{[]api.Write{put(5, 8), put(5, 7)}, api.ErrArg}, {[]api.Write{put(5, 8), put(5, 8)}, api.ErrArg}, {[]api.Write{put(5, 9), lock(6, 8), put(5, 7)}, api.ErrArg},
		{[]api.Write{roll(5), roll(5)}, api.ErrArg}, {[]api.Write{del(5, 8), del(5, 7)}, api.ErrArg}, {[]api.Write{lock(5, 8), lock(5, 7)}, api.ErrArg},
		{[]api.Write{put(5, 8), roll(5)}, api.OK}, {[]api.Write{put(5, 8), del(5, 7), lock(5, 6)}, api.OK}, // of other kinds
		{[]api.Write{put(5, 8), del(5, 8)}, api.ErrArg}, // of one Commit they rise by Start
		{[]api.Write{put(5, 5)}, api.OK}, {[]api.Write{put(5, 4)}, api.ErrArg},
	}
	for _, r := range rows {
		loads(t, toldImage(api.Image{Cells: []api.Cell{{Key: key("b"), Writes: r.l}}}), func(x *api.Image) { x.Cells[1].Writes = r.l }, r.e)
	}
	for kind, is := range map[int]api.Errno{-1: api.ErrArg, 0: api.ErrArg, api.KindPut: api.OK, api.KindDelete: api.OK, api.KindLock: api.OK, api.KindPess: api.ErrArg, api.KindRollback: api.ErrArg, 6: api.ErrArg} {
		loads(t, "a write's kind", func(x *api.Image) { x.Cells[1].Writes[0].Kind = kind }, is)
	}
	for kind := api.KindPut; kind <= api.KindRollback; kind++ {
		for n, is := range map[int]api.Errno{0: api.OK, 1: api.ErrArg, api.MaxValue: api.ErrArg, api.MaxValue + 1: api.ErrArg} {
			if kind == api.KindPut && n <= api.MaxValue {
				is = api.OK
			}
			if kind == api.KindPess {
				is = api.ErrArg
			}
			w := api.Write{Kind: kind, Start: 5, Commit: 5, Value: bytes.Repeat([]byte("v"), n)}
			loads(t, "a write's value", func(x *api.Image) { x.Cells[1].Writes = []api.Write{w} }, is)
		}
	}
}

// Where an image has more than one write of a transaction, the first that is no rollback says when it was committed.
func TestLoadedStates(t *testing.T) { // P11.1
	s, e := Load(api.Image{Cells: []api.Cell{
		{Key: key("a"), Writes: []api.Write{{Kind: api.KindPut, Start: 5, Commit: 8}, {Kind: api.KindRollback, Start: 5, Commit: 5}}},
		{Key: key("b"), Writes: []api.Write{{Kind: api.KindRollback, Start: 8, Commit: 8}, {Kind: api.KindLock, Start: 5, Commit: 7}, {Kind: api.KindDelete, Start: 5, Commit: 6}}},
		{Key: key("c"), Locked: true, Lock: api.Lock{Kind: api.KindPut, Key: key("c"), Primary: key("c"), Start: 5, MinCommit: 6}, Writes: []api.Write{{Kind: api.KindRollback, Start: 5, Commit: 5}}},
		{Key: key("d"), Writes: []api.Write{{Kind: api.KindPut, Start: 5, Commit: 5}}},
	}})
	want(t, "Load", e, api.OK)
	script(t, s, `
		check @5 by:a -> ok at:8 COMMITTED
		check @5 by:b -> ok at:7 COMMITTED
		check @5 by:c -> ok LOCKED {put c= by:c @5 min:6}
		check @5 by:d -> ok at:5 COMMITTED
		rollback @5 a -> committed a at:8
		commit @5 at:9 a b c d -> ok
		check @5 by:c -> ok at:9 COMMITTED`)
}
