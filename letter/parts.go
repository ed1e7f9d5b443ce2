package letter

import (
	"regatta/api"
	"regatta/conf"
	"regatta/pd"
	"regatta/row"
	"regatta/state"
	"regatta/vault"
)

func letterParts(w *row.Walk, l *[]Part) { row.List(w, l, partParts) }

func partParts(w *row.Walk, x *Part) {
	w.Count(&x.Kind)
	kinds := walks()
	if x.Kind < Message || x.Kind >= len(kinds) {
		w.Refuse()
		return
	}
	kinds[x.Kind](w, x)
}

// walks: what each kind goes over.
func walks() [Reply + 1]func(*row.Walk, *Part) {
	return [...]func(*row.Walk, *Part){
		Message:   walkMessage,
		Piece:     walkPiece,
		Lonely:    walkLonely,
		Gone:      walkGone,
		Store:     walkNothing,
		Region:    walkRegion,
		Order:     walkOrder,
		Merge:     walkMerge,
		AskMerge:  walkAskMerge,
		Pull:      walkPull,
		Source:    walkSource,
		AskTime:   walkTag,
		AskDriver: walkAskDriver,
		AskRegion: walkAskRegion,
		AskCmd:    walkAskCmd,
		AskGet:    walkAskGet,
		AskScan:   walkAskRange,
		AskLocks:  walkAskRange,
		Answer:    walkAnswer,
		Reply:     walkReply,
	}
}

func walkNothing(*row.Walk, *Part) {}

func walkTag(w *row.Walk, x *Part) { w.Numbers(&x.Tag.Group, &x.Tag.Term, &x.Tag.Seq) }

func walkMessage(w *row.Walk, x *Part) {
	w.Numbers(&x.Group, &x.Conf)
	messageParts(w, &x.Message)
	row.List(w, &x.Message.Entries, entryParts)
}

func walkPiece(w *row.Walk, x *Part) {
	w.Number(&x.Group)
	messageParts(w, &x.Message)
	w.Numbers(&x.Message.Snap.Index, &x.Message.Snap.Term)
	row.Coded(w, &x.Message.Snap.Conf, conf.Encode, conf.Decode)
	w.Numbers(&x.Sum, &x.Length)
	w.Text(&x.Data)
}

func walkLonely(w *row.Walk, x *Part) { w.Numbers(&x.Group, &x.Peer, &x.Conf, &x.Term) }

func walkGone(w *row.Walk, x *Part) { w.Numbers(&x.Group, &x.Peer) }

func walkRegion(w *row.Walk, x *Part) {
	w.Region(&x.Region)
	w.Number(&x.Term)
	w.Count(&x.Size)
}

func walkOrder(w *row.Walk, x *Part) {
	w.Count(&x.Order.Kind)
	w.Number(&x.Order.Region)
	w.Count(&x.Order.Store)
	w.Numbers(&x.Order.Peer, &x.Order.Other)
	w.Epoch(&x.Epoch)
}

func walkMerge(w *row.Walk, x *Part) {
	w.Number(&x.N)
	w.Region(&x.Region)
	w.Region(&x.Other)
	w.Count(&x.Status)
	w.Yes(&x.Swallowed)
}

func walkAskMerge(w *row.Walk, x *Part) { w.Number(&x.N) }

func walkPull(w *row.Walk, x *Part) {
	w.Number(&x.N)
	w.Region(&x.Region)
}

func walkSource(w *row.Walk, x *Part) { row.Coded(w, &x.Cmd, state.EncodeCmd, state.DecodeCmd) }

func walkAskDriver(w *row.Walk, x *Part) {
	walkTag(w, x)
	row.Coded(w, &x.Pd, pd.EncodeCmd, pd.DecodeCmd)
}

func walkAskRegion(w *row.Walk, x *Part) {
	walkTag(w, x)
	w.Text(&x.Key)
}

func walkAskCmd(w *row.Walk, x *Part) {
	walkTag(w, x)
	w.Number(&x.Group)
	row.Coded(w, &x.Cmd, state.EncodeCmd, state.DecodeCmd)
}

func walkAskGet(w *row.Walk, x *Part) {
	walkTag(w, x)
	w.Numbers(&x.Group, &x.TS)
	w.Epoch(&x.Epoch)
	w.Text(&x.Key)
}

func walkAskRange(w *row.Walk, x *Part) {
	walkAskGet(w, x)
	w.Text(&x.End)
	w.Count(&x.Limit)
}

func walkAnswer(w *row.Walk, x *Part) {
	walkTag(w, x)
	resultParts(w, &x.Result)
	w.Count(&x.Leader)
	w.Yes(&x.Found)
	w.Text(&x.Value)
	row.List(w, &x.Pairs, pairParts)
	row.List(w, &x.Locks, (*row.Walk).Lock)
}

func walkReply(w *row.Walk, x *Part) {
	walkTag(w, x)
	errParts(w, &x.PdResult.Err)
	w.Number(&x.PdResult.N)
	w.Count(&x.PdResult.Status)
	w.Number(&x.TS)
	w.Region(&x.Region)
	w.Count(&x.Leader)
}

// messageParts is a message of a group without its entries and its snapshot.
func messageParts(w *row.Walk, m *api.Message) {
	w.Count(&m.Kind)
	w.Numbers(&m.From, &m.To, &m.Term, &m.Index, &m.LogTerm, &m.Commit, &m.Context)
	w.Yes(&m.Refused)
}

func entryParts(w *row.Walk, x *api.Entry) { row.Coded(w, x, vault.Entry, vault.TakeEntry) }

func resultParts(w *row.Walk, r *api.Result) {
	errParts(w, &r.Err)
	w.Text(&r.Key)
	w.Lock(&r.Lock)
	w.Number(&r.Commit)
	w.Count(&r.Status)
	w.Region(&r.New)
}

func errParts(w *row.Walk, e *api.Errno) {
	n := int(*e)
	w.Count(&n)
	*e = api.Errno(n)
}

func pairParts(w *row.Walk, p *api.Pair) {
	w.Text(&p.Key)
	w.Text(&p.Value)
	w.Yes(&p.Gone)
}
