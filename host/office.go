package host

import (
	"cmp"
	"container/heap"
	"maps"
	"slices"

	"regatta/api"
	"regatta/letter"
)

const (
	askEach  = 4   // ticks behind which what was not answered is asked again
	maxWaits = 512 // what may wait at one leader: one that is cut off would gather more and more
)

// office is what a peer has as long as it leads. Nothing of it outlives that.
type office struct {
	regionPart
	driverPart
	term  uint64
	first uint64                   // the entries up to this one are those of leaders ahead of it, and its first
	begun uint64                   // the tick at which it began
	count uint64                   // what was numbered so far
	waits waits                    // for an index
	reads map[uint64]func(outcome) // by context: what waits for raft to say for which index
	asks  map[uint64]*inquiry      // of the placement driver, by number
}

// outcome is what has become of what waited; it is not known where the peer leads no more, or another entry came.
type outcome struct {
	known   bool
	refused bool // it was never proposed
	result  api.Result
	pd      api.PdResult
}

func newOffice(term, last, tick uint64) *office {
	return &office{term: term, first: last, begun: tick, reads: map[uint64]func(outcome){}, asks: map[uint64]*inquiry{}, driverPart: newDriverPart(tick)}
}

// number: one that nothing else of this office has.
func (o *office) number() uint64 {
	o.count++
	return o.count
}

// wait is somebody who waits for an entry to be applied: the one of that index and term, or (term 0) all up to it.
type wait struct {
	index, term, number uint64
	then                func(outcome)
}

// waits is a heap: at its top is what waits for the least index; of those what came first.
type waits []wait

func (l waits) Len() int { return len(l) }

func (l waits) Less(i, j int) bool {
	return cmp.Or(cmp.Compare(l[i].index, l[j].index), cmp.Compare(l[i].number, l[j].number)) < 0
}

func (l waits) Swap(i, j int) { l[i], l[j] = l[j], l[i] }

func (l *waits) Push(x any) { *l = append(*l, x.(wait)) }

func (l *waits) Pop() any {
	last := len(*l) - 1
	x := (*l)[last]
	*l = (*l)[:last]
	return x
}

func (o *office) wait(index, term uint64, then func(outcome)) {
	heap.Push(&o.waits, wait{index, term, o.number(), then})
}

// reach: the entry of that index and term is applied; who waited for it, or for what is ahead of it, waits no more.
func (o *office) reach(index, term uint64, got outcome) {
	for len(o.waits) > 0 && o.waits[0].index <= index {
		w := heap.Pop(&o.waits).(wait)
		switch {
		case w.term == 0:
			w.then(outcome{known: true})
		case w.index == index && w.term == term:
			w.then(got)
		default:
			w.then(outcome{})
		}
	}
}

// told: raft has said up to where these reads need the log.
func (o *office) told(l []api.ReadAt, applied uint64) {
	for _, x := range l {
		if then := o.reads[x.Context]; then != nil {
			delete(o.reads, x.Context)
			o.wait(x.Index, 0, then)
		}
	}
	o.reach(applied, 0, outcome{})
}

// isFull: does too much wait here already?
func (o *office) isFull() bool { return len(o.waits)+len(o.reads) >= maxWaits }

// resign: the peer leads no more. Of what waits nothing is known.
func (h *Host) resign(p *peer) {
	o := p.office
	if o == nil {
		return
	}
	p.office = nil
	for len(o.waits) > 0 {
		heap.Pop(&o.waits).(wait).then(outcome{})
	}
	for _, context := range slices.Sorted(maps.Keys(o.reads)) {
		o.reads[context](outcome{})
	}
	for _, x := range o.later {
		x(outcome{})
	}
}

// read: then is called when the peer has applied all that was known committed anywhere when this was called.
func (h *Host) read(p *peer, then func(outcome)) {
	o := p.office
	context := o.number()
	if p.Read(context) != api.OK {
		then(outcome{})
		return
	}
	o.reads[context] = then
	h.soil(p)
}

// propose: then is called when the entry is applied, or when it is sure that nothing is known of it; in any case, as
// whoever waits for it waits for ever else.
func (h *Host) propose(p *peer, data []byte, then func(outcome)) {
	if len(data) > maxEntry {
		then(outcome{refused: true})
		return
	}
	index, code := p.Propose(data)
	if code != api.OK {
		then(outcome{refused: true})
		return
	}
	p.office.wait(index, p.office.term, then)
	h.soil(p)
}

// inquiry is an ask of the placement driver that waits for its reply.
type inquiry struct {
	part letter.Part
	sent uint64
	then func(letter.Part)
}

// ask asks the placement driver, again and again, till it replies.
func (h *Host) ask(p *peer, x letter.Part, then func(letter.Part)) uint64 {
	o := p.office
	n := o.number()
	x.Tag = letter.Tag{Group: p.group, Term: o.term, Seq: n}
	o.asks[n] = &inquiry{part: x, sent: h.ticks, then: then}
	h.toDriver(x)
	return n
}

// remind asks again what was not replied to.
func (h *Host) remind(p *peer) {
	for _, n := range slices.Sorted(maps.Keys(p.office.asks)) {
		if q := p.office.asks[n]; h.ticks-q.sent >= askEach {
			q.sent = h.ticks
			h.toDriver(q.part)
		}
	}
}

// onReply: the placement driver has replied. An ask of an elder office, or one that was replied to, waits no more.
func (h *Host) onReply(_ int, x letter.Part) {
	p := h.peers[x.Tag.Group]
	if p == nil || p.office == nil || p.office.term != x.Tag.Term {
		return
	}
	if q := p.office.asks[x.Tag.Seq]; q != nil {
		delete(p.office.asks, x.Tag.Seq)
		q.then(x)
		h.soil(p)
	}
}
