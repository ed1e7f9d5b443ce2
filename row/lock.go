package row

import "regatta/api"

// Lock is the parts of a lock, of one that is none too.
func (w *Walk) Lock(l *api.Lock) {
	w.Count(&l.Kind)
	w.Text(&l.Key)
	w.Text(&l.Primary)
	w.Text(&l.Value)
	w.Numbers(&l.Start, &l.ForUpdate, &l.MinCommit)
	w.Yes(&l.Async)
	List(w, &l.Secondaries, (*Walk).Text)
}
