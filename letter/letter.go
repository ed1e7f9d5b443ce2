// Package letter is what stores and clients write to one another.
//
// It is no layer of the map: package host writes and reads letters, and so do
// clients. A letter is a list of parts, each of a kind; which fields of a part
// count for which kind is said at the kinds. A letter has a sum, so that of one
// that was turned under way nothing is read.
package letter

import (
	"regatta/api"
	"regatta/codec"
	"regatta/row"
)

// Kinds of Part: between stores.
const (
	Message   = iota + 1 // of a peer of Group to another one; of MsgAsk and MsgVote Conf: at which it was a member
	Piece                // of the snapshot of Message (a MsgSnap whose Data are these), which has Sum and Length: Data
	Lonely               // does the Peer of Group still count, which was a member at Conf (0: it does not know) and is in Term?
	Gone                 // it does not, and never will again
	Store                // to the placement driver: the sender is there
	Region               // to the placement driver: the sender leads Region in Term, and so much (Size) lies in it
	Order                // of the placement driver: Order is to be done, as long as the region is at Epoch
	Merge                // of the placement driver: the merge N of Region into Other has Status; Swallowed: it is done
	AskMerge             // to the placement driver: how does the merge N stand?
	Pull                 // of a target's leader: the merge N needs what lies in Region, its source
	Source               // of a source's leader: Cmd is the CmdAbsorb that brings it in
	AskTime              // to the placement driver, of anybody, as are the next two: a timestamp
	AskDriver            // Pd is to be done
	AskRegion            // which region holds Key, and who leads it?
	AskCmd               // to the leader of Group, of a client, as are the next ones: Cmd is to be done
	AskGet               // Key at TS, at Epoch
	AskScan              // the pairs from Key on below End, at most Limit, at TS, at Epoch
	AskLocks             // the locks of these keys whose start is at most TS
	Answer               // of a region's leader, or who was taken for it (Leader: the store that it holds for that): Result, and Value, Found, Pairs, Locks
	Reply                // of the placement driver: PdResult, TS, or Region (and Leader, if one is known)
)

// Tag tells an ask from others: its answer bears it, too. Of a store's asks Group and Term say which leader asks.
type Tag struct {
	Group, Term, Seq uint64
}

// Part is one thing that is said in a letter.
type Part struct {
	Kind              int
	Tag               Tag
	Group, Peer, Term uint64
	Conf, N, TS       uint64
	Epoch             api.Epoch
	Message           api.Message
	Sum, Length       uint64
	Data              []byte
	Region, Other     api.Region
	Status            int
	Swallowed         bool
	Size, Limit       int
	Order             api.Order
	Cmd               api.Cmd
	Pd                api.PdCmd
	Key, End          []byte
	Result            api.Result
	PdResult          api.PdResult
	Leader            int
	Found             bool
	Value             []byte
	Pairs             []api.Pair
	Locks             []api.Lock
}

// Write: the letter of these parts.
func Write(parts []Part) []byte { return codec.Frame(row.Write(parts, letterParts)) }

// Read: the parts of the letter that was written so; false, if it is none.
func Read(b []byte) ([]Part, bool) {
	inner, rest, e := codec.TakeFrame(b)
	if e != api.OK || len(rest) > 0 {
		return nil, false
	}
	return row.Read(inner, letterParts)
}
