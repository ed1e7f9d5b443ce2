package host

import (
	"maps"
	"slices"

	"regatta/api"
	"regatta/letter"
)

// post is what a call has to say to others.
type post struct {
	out map[int][]letter.Part // by actor
	own []letter.Part         // to itself: no letter goes there
}

// send: the actor is to be told this.
func (h *Host) send(actor int, x letter.Part) {
	if actor == h.store {
		h.own = append(h.own, x)
		return
	}
	h.out[actor] = append(h.out[actor], x)
}

// toAll: all stores are to be told this.
func (h *Host) toAll(x letter.Part) {
	for store := 1; store <= h.setup.Stores; store++ {
		h.send(store, x)
	}
}

// toDriver: whoever leads the placement driver is to be told this. It is on one of few stores, so all of these are told.
func (h *Host) toDriver(x letter.Part) {
	for store := 1; store <= min(founders, h.setup.Stores); store++ {
		h.send(store, x)
	}
}

// kinds: what is done with a part of each kind.
func kinds() [letter.Reply + 1]func(*Host, int, letter.Part) {
	return [...]func(*Host, int, letter.Part){
		letter.Message:   (*Host).onMessage,
		letter.Piece:     (*Host).onPiece,
		letter.Lonely:    (*Host).onLonely,
		letter.Gone:      (*Host).onGone,
		letter.Store:     (*Host).onStore,
		letter.Region:    (*Host).onRegion,
		letter.Order:     (*Host).onOrder,
		letter.Merge:     (*Host).onMerge,
		letter.AskMerge:  (*Host).onAskMerge,
		letter.Pull:      (*Host).onPull,
		letter.Source:    (*Host).onSource,
		letter.AskTime:   (*Host).onAskTime,
		letter.AskDriver: (*Host).onAskDriver,
		letter.AskRegion: (*Host).onAskRegion,
		letter.AskCmd:    (*Host).onAskCmd,
		letter.AskGet:    (*Host).onAskGet,
		letter.AskScan:   (*Host).onAskScan,
		letter.AskLocks:  (*Host).onAskLocks,
		letter.Answer:    (*Host).ignore, // only clients ask a region's leader
		letter.Reply:     (*Host).onReply,
	}
}

func (h *Host) ignore(int, letter.Part) {}

// take does what a part of a letter asks. What stores tell one another counts of stores alone.
func (h *Host) take(from int, x letter.Part) {
	client := x.Kind >= letter.AskTime && x.Kind <= letter.AskLocks
	if !client && !h.isStore(from) {
		return
	}
	h.unit()
	kinds()[x.Kind](h, from, x)
	h.pump()
}

func (h *Host) isStore(actor int) bool { return actor >= 1 && actor <= h.setup.Stores }

// finish: what was told to itself is done, and all is kept; then the letters may go.
func (h *Host) finish() ([]api.Letter, api.Errno) {
	h.pump()
	for len(h.own) > 0 {
		x := h.own[0]
		h.own = h.own[1:]
		h.take(h.store, x)
	}
	if code := h.write(); code != api.OK {
		return nil, code
	}
	return h.letters(), api.OK
}

// letters: one to each actor that is to be told something; pieces go in letters of their own.
func (h *Host) letters() []api.Letter {
	var l []api.Letter
	for _, actor := range slices.Sorted(maps.Keys(h.out)) {
		var bundle []letter.Part
		var pieces [][]byte
		for _, x := range h.out[actor] {
			if x.Kind == letter.Piece {
				pieces = append(pieces, letter.Write([]letter.Part{x}))
			} else {
				bundle = append(bundle, x)
			}
		}
		if len(bundle) > 0 {
			l = append(l, api.Letter{To: actor, Data: letter.Write(bundle)})
		}
		for _, b := range pieces {
			l = append(l, api.Letter{To: actor, Data: b})
		}
	}
	clear(h.out)
	return l
}
