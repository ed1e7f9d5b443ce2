package host

import (
	"fmt"
	"slices"

	"regatta/api"
	"regatta/letter"
	"regatta/region"
)

// client asks hosts, and remembers what it was told. Its transactions have one key.
type client struct {
	w     *world
	actor int
	seq   uint64
	asks  map[uint64]*asked
	gets  []got
}

// asked is what waits for an answer.
type asked struct {
	begun int
	then  func(letter.Part)
}

// got is what a read at a time told.
type got struct {
	key   string
	ts    uint64
	found bool
	value string
}

func newClient(w *world, actor int) *client {
	return &client{w: w, actor: actor, asks: map[uint64]*asked{}}
}

func (c *client) receive(p packet) {
	l, ok := letter.Read(p.Data)
	if !ok && !c.w.blind {
		c.w.fail("a letter that is none")
	}
	for _, x := range l {
		q := c.asks[x.Tag.Seq]
		if q == nil {
			continue
		}
		delete(c.asks, x.Tag.Seq)
		q.then(x)
	}
}

func (c *client) tick() {
	for n, q := range c.asks {
		if c.w.step-q.begun > 2000 {
			delete(c.asks, n)
		}
	}
}

func (c *client) ask(to int, x letter.Part, then func(letter.Part)) {
	c.seq++
	x.Tag = letter.Tag{Seq: c.seq}
	c.asks[c.seq] = &asked{c.w.step, then}
	c.w.way = append(c.w.way, packet{c.actor, api.Letter{To: to, Data: letter.Write([]letter.Part{x})}})
}

// time asks for a timestamp, and holds it against the commits that were answered ahead of the ask.
func (c *client) time(then func(ts uint64)) {
	least := c.w.answered
	for store := 1; store <= min(founders, c.w.setup.Stores); store++ {
		c.ask(store, letter.Part{Kind: letter.AskTime}, func(x letter.Part) {
			if !c.w.blind && (x.TS == 0 || x.TS < least || c.w.given[x.TS]) {
				c.w.fail("P18.9: the timestamp %d, behind a commit at %d", x.TS, least)
			}
			c.w.given[x.TS] = true
			then(x.TS)
		})
	}
}

// place: a region that holds the key, as some store tells it, and a store that may lead it.
func (c *client) place(key string) (api.Region, int) {
	w := c.w
	var l []api.PeerView
	for _, h := range w.hosts {
		if h == nil {
			continue
		}
		for _, v := range h.Peers() {
			if region.Covers(v.Region, []byte(key)) {
				l = append(l, v)
			}
		}
	}
	if len(l) == 0 {
		return api.Region{}, 0
	}
	v := l[w.r.IntN(len(l))]
	for _, x := range l {
		if x.Role == api.RoleLeader && w.r.IntN(8) > 0 {
			v = x
		}
	}
	return v.Region, v.Store
}

func (c *client) cmd(key string, x api.Cmd, then func(api.Result)) {
	r, store := c.place(key)
	if store == 0 {
		return
	}
	x.Epoch = r.Epoch
	c.ask(store, letter.Part{Kind: letter.AskCmd, Group: r.ID, Cmd: x}, func(x letter.Part) { then(x.Result) })
}

// any begins something.
func (c *client) any() {
	key := c.w.anyKey()
	if c.w.r.IntN(2) == 0 {
		c.time(func(ts uint64) { c.get(key, ts) })
		return
	}
	once := false
	c.time(func(ts uint64) {
		if !once {
			once = true
			c.put(key, ts, c.w.r.IntN(3))
		}
	})
}

func (c *client) get(key string, ts uint64) {
	r, store := c.place(key)
	if store == 0 {
		return
	}
	c.ask(store, letter.Part{Kind: letter.AskGet, Group: r.ID, Epoch: r.Epoch, Key: []byte(key), TS: ts}, func(x letter.Part) {
		if x.Result.Err == api.OK {
			c.gets = append(c.gets, got{key, ts, x.Found, string(x.Value)})
			c.w.counts["reads"]++
		}
		if x.Result.Err == api.ErrLocked {
			c.w.counts["locked"]++
			c.clear(x.Result.Lock, func() {})
		}
	})
}

// put: mode 0 in two phases, 1 async, 2 in one phase.
func (c *client) put(key string, ts uint64, mode int) {
	w := c.w
	x := api.Cmd{Kind: api.CmdPrewrite, Start: ts, Primary: []byte(key), Async: mode == 1, One: mode == 2,
		Muts: []api.Mut{{Kind: api.KindPut, Key: []byte(key), Value: []byte(fmt.Sprint(ts))}}}
	if w.r.IntN(5) == 0 {
		x.Muts[0].Kind, x.Muts[0].Value = api.KindDelete, nil
	}
	w.counts["puts"]++
	c.cmd(key, x, func(r api.Result) {
		switch {
		case r.Err == api.ErrLocked:
			c.clear(r.Lock, func() {})
		case r.Err != api.OK:
			w.counts[fmt.Sprint("refused ", r.Err)]++
		case mode == 2:
			c.committed(key, ts, r.Commit)
		case mode == 1:
			c.committed(key, ts, r.Commit)
			c.commit(key, ts, r.Commit, func() {})
		default:
			once := false
			c.time(func(at uint64) {
				if !once {
					once = true
					c.commit(key, ts, at, func() { c.committed(key, ts, at) })
				}
			})
		}
	})
}

func (c *client) commit(key string, start, at uint64, then func()) {
	c.cmd(key, api.Cmd{Kind: api.CmdCommit, Start: start, Commit: at, Keys: [][]byte{[]byte(key)}}, func(r api.Result) {
		if r.Err == api.OK {
			then()
		}
	})
}

// committed: it was answered so.
func (c *client) committed(key string, start, at uint64) {
	w := c.w
	w.counts["commits"]++
	w.commits[start] = at
	w.answered = max(w.answered, at)
	w.trail = append(w.trail, fmt.Sprint(key, " ", start, " ", at))
}

// clear: the lock is resolved, by force where its transaction is not async.
func (c *client) clear(l api.Lock, then func()) {
	key := string(l.Key)
	resolve := func(at uint64) {
		c.cmd(key, api.Cmd{Kind: api.CmdResolve, Start: l.Start, Commit: at, Keys: [][]byte{l.Key}}, func(r api.Result) {
			if r.Err == api.OK {
				then()
			}
		})
	}
	c.cmd(key, api.Cmd{Kind: api.CmdCheck, Start: l.Start, Primary: l.Primary, Force: true}, func(r api.Result) {
		switch {
		case r.Err != api.OK:
		case r.Status == api.TxnCommitted:
			resolve(r.Commit)
		case r.Status == api.TxnRolled:
			resolve(0)
		case r.Status == api.TxnLocked && r.Lock.Async:
			resolve(r.Lock.MinCommit)
		}
	})
}

// write is one that is committed.
type write struct {
	start, commit uint64
	put           bool
}

// truth: what the leaders' states say was written, by key.
func (w *world) truth() map[string][]write {
	out := map[string][]write{}
	for _, h := range w.hosts {
		for _, v := range h.Peers() {
			if v.Role != api.RoleLeader || w.eye.swallowed[v.Region.ID] {
				continue
			}
			s, _ := h.State(v.Region.ID)
			for _, x := range s.Image().Cells {
				for _, y := range x.Writes {
					if y.Kind == api.KindPut || y.Kind == api.KindDelete {
						out[string(x.Key)] = append(out[string(x.Key)], write{y.Start, y.Commit, y.Kind == api.KindPut})
					}
				}
				if x.Locked && x.Lock.Async {
					out[string(x.Key)] = append(out[string(x.Key)], write{x.Lock.Start, x.Lock.MinCommit, x.Lock.Kind == api.KindPut})
				}
			}
		}
	}
	return out
}

// agree: all reads and commits that were answered fit the truth.
func (w *world) agree() {
	truth := w.truth()
	known := map[uint64]uint64{}
	for _, l := range truth {
		for _, x := range l {
			known[x.start] = x.commit
		}
	}
	for start, at := range w.commits {
		if known[start] != at {
			w.fail("W2: %d was answered as committed at %d; it is at %d", start, at, known[start])
		}
	}
	for key, l := range truth {
		slices.SortFunc(l, func(a, b write) int { return int(a.commit) - int(b.commit) })
		for i := 1; i < len(l); i++ {
			if l[i].start < l[i-1].commit {
				w.fail("W1: %s: %+v and %+v overlap", key, l[i-1], l[i])
			}
		}
	}
	for _, c := range w.clients {
		for _, g := range c.gets {
			var last write
			for _, x := range truth[g.key] {
				if x.commit <= g.ts {
					last = x
				}
			}
			value := ""
			if last.put {
				value = fmt.Sprint(last.start)
			}
			if g.found != last.put || g.value != value {
				w.fail("W1: Get(%s) at %d told %v %q; it is %+v", g.key, g.ts, g.found, g.value, last)
			}
		}
	}
}
