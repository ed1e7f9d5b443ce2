package state

import (
	"bytes"

	"regatta/api"
	"regatta/row"
)

// whole is a state as plain data.
type whole struct {
	applied, frozen, held uint64
	swallowed             []uint64
	places                []api.Peer
	region                api.Region
	image                 api.Image
}

// Export: bytes that say all of it.
func (s *State) Export() []byte {
	x := whole{s.applied, s.frozen, s.held, s.swallowed, s.places, s.region, s.Image()}
	return row.Write(x, wholeParts)
}

// Import: the state whose Export b is.
func Import(b []byte) (*State, api.Errno) {
	x, ok := row.Read(b, wholeParts)
	if !ok {
		return nil, api.ErrForm
	}
	s, e := New(x.region, x.image)
	if e != api.OK {
		return nil, api.ErrForm
	}
	s.applied, s.frozen, s.held, s.swallowed, s.places = x.applied, x.frozen, x.held, x.swallowed, x.places
	// An image may say the same in several ways: it counts in the one in which it is told.
	if !s.reached() || !bytes.Equal(s.Export(), b) {
		return nil, api.ErrForm
	}
	return s, api.OK
}

// reached: may entries have brought a state here? Each merge took two of them (it was held, and absorbed) and
// raised the Version, and two numbers at most came of it.
func (s *State) reached() bool {
	merges := uint64(len(s.swallowed)+1) / 2
	least := 2 * merges
	if s.frozen != 0 || s.held != 0 {
		least++
	}
	if len(s.places) > 0 {
		least++
	}
	return s.applied >= least && s.region.Epoch.Version >= merges && (s.frozen == 0 || s.held == 0) &&
		rises(s.swallowed) && placed(s.places)
}

// rises: are the numbers above 0, and each above the one ahead of it?
func rises(l []uint64) bool {
	last := uint64(0)
	for _, n := range l {
		if n <= last {
			return false
		}
		last = n
	}
	return true
}

// EncodeCmd: bytes that say all of a command, whatever its kind.
func EncodeCmd(c api.Cmd) []byte { return row.Write(c, cmdParts) }

// DecodeCmd: the command whose EncodeCmd b is.
func DecodeCmd(b []byte) (api.Cmd, api.Errno) {
	c, ok := row.Read(b, cmdParts)
	if !ok {
		return api.Cmd{}, api.ErrForm
	}
	return c, api.OK
}
