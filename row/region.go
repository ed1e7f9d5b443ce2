package row

import "regatta/api"

// Region is the parts of a region, of one that is none too: not chapter 10's bytes, which have no room for each number
// of a store.
func (w *Walk) Region(r *api.Region) {
	w.Number(&r.ID)
	w.Text(&r.Start)
	w.Text(&r.End)
	w.Epoch(&r.Epoch)
	List(w, &r.Peers, (*Walk).Peer)
}

// Epoch is the two numbers of an epoch.
func (w *Walk) Epoch(e *api.Epoch) { w.Numbers(&e.Conf, &e.Version) }

// Peer is the parts of a peer.
func (w *Walk) Peer(p *api.Peer) {
	w.Number(&p.ID)
	w.Count(&p.Store)
	w.Yes(&p.Learner)
}
