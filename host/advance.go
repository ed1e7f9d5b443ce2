package host

// advance goes on with all that a leader does of its own, as far as that can be now. It is called whenever anything has
// changed, and at each tick.
func (h *Host) advance(p *peer) {
	if p.office == nil {
		return
	}
	h.remind(p)
	if p.driver != nil {
		h.govern(p)
		return
	}
	h.tell(p)
	h.seekMark(p)
	h.unite(p)
	h.grant(p)
	h.proceed(p)
	h.promote(p)
}
