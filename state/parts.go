package state

import (
	"regatta/api"
	"regatta/row"
)

func wholeParts(w *row.Walk, x *whole) {
	w.Numbers(&x.applied, &x.frozen, &x.held)
	row.List(w, &x.swallowed, (*row.Walk).Number)
	row.List(w, &x.places, (*row.Walk).Peer)
	w.Region(&x.region)
	imageParts(w, &x.image)
}

func cmdParts(w *row.Walk, c *api.Cmd) {
	w.Count(&c.Kind)
	w.Epoch(&c.Epoch)
	w.Numbers(&c.Start, &c.Commit, &c.ForUpdate, &c.Max)
	w.Text(&c.Primary)
	row.List(w, &c.Muts, mutParts)
	row.List(w, &c.Keys, (*row.Walk).Text)
	w.Yes(&c.Async)
	w.Yes(&c.One)
	w.Yes(&c.Force)
	row.List(w, &c.Secondaries, (*row.Walk).Text)
	w.Number(&c.ID)
	row.List(w, &c.Peers, (*row.Walk).Peer)
	w.Region(&c.Region)
	imageParts(w, &c.Image)
}

func mutParts(w *row.Walk, m *api.Mut) {
	w.Count(&m.Kind)
	w.Text(&m.Key)
	w.Text(&m.Value)
	w.Yes(&m.Held)
}

func imageParts(w *row.Walk, x *api.Image) {
	w.Numbers(&x.Floor, &x.GC)
	row.List(w, &x.Cells, cellParts)
}

func cellParts(w *row.Walk, c *api.Cell) {
	w.Text(&c.Key)
	w.Yes(&c.Locked)
	w.Lock(&c.Lock)
	row.List(w, &c.Writes, writeParts)
}

func writeParts(w *row.Walk, x *api.Write) {
	w.Count(&x.Kind)
	w.Numbers(&x.Commit, &x.Start)
	w.Text(&x.Value)
}
