package state

import (
	"regatta/api"
)

func (r *row) whole(x *whole) {
	r.numbers(&x.applied, &x.frozen, &x.held)
	list(r, &x.swallowed, (*row).number)
	list(r, &x.places, (*row).peer)
	r.region(&x.region)
	r.image(&x.image)
}

func (r *row) cmd(c *api.Cmd) {
	r.count(&c.Kind)
	r.epoch(&c.Epoch)
	r.numbers(&c.Start, &c.Commit, &c.ForUpdate, &c.Max)
	r.text(&c.Primary)
	list(r, &c.Muts, (*row).mut)
	list(r, &c.Keys, (*row).text)
	r.yes(&c.Async)
	r.yes(&c.One)
	r.yes(&c.Force)
	list(r, &c.Secondaries, (*row).text)
	r.number(&c.ID)
	list(r, &c.Peers, (*row).peer)
	r.region(&c.Region)
	r.image(&c.Image)
}

func (r *row) epoch(e *api.Epoch) { r.numbers(&e.Conf, &e.Version) }

func (r *row) mut(m *api.Mut) {
	r.count(&m.Kind)
	r.text(&m.Key)
	r.text(&m.Value)
	r.yes(&m.Held)
}

func (r *row) peer(p *api.Peer) {
	r.number(&p.ID)
	r.count(&p.Store)
	r.yes(&p.Learner)
}

// region is not written in chapter 10's way, which has no room for each number of a store.
func (r *row) region(x *api.Region) {
	r.number(&x.ID)
	r.text(&x.Start)
	r.text(&x.End)
	r.epoch(&x.Epoch)
	list(r, &x.Peers, (*row).peer)
}

func (r *row) image(x *api.Image) {
	r.numbers(&x.Floor, &x.GC)
	list(r, &x.Cells, (*row).cell)
}

func (r *row) cell(c *api.Cell) {
	r.text(&c.Key)
	r.yes(&c.Locked)
	r.lock(&c.Lock)
	list(r, &c.Writes, (*row).write)
}

func (r *row) lock(l *api.Lock) {
	r.count(&l.Kind)
	r.text(&l.Key)
	r.text(&l.Primary)
	r.text(&l.Value)
	r.numbers(&l.Start, &l.ForUpdate, &l.MinCommit)
	r.yes(&l.Async)
	list(r, &l.Secondaries, (*row).text)
}

func (r *row) write(w *api.Write) {
	r.count(&w.Kind)
	r.numbers(&w.Commit, &w.Start)
	r.text(&w.Value)
}
