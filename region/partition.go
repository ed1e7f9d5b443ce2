package region

import (
	"bytes"
	"slices"

	"regatta/api"
)

// span is a region of which the range alone counts.
type span api.Region

// Partition: does each text of bytes lie in just one of them?
func Partition(l []api.Region) bool {
	spans := spansOf(l)
	slices.SortFunc(spans, span.order)
	var end []byte
	for i, s := range spans {
		// Behind one without an end there is no room, though its End looks like the beginning of all.
		if i > 0 && len(end) == 0 || !bytes.Equal(s.Start, end) {
			return false
		}
		end = s.End
	}
	return len(spans) > 0 && len(end) == 0
}

// spansOf leaves out the regions in which nothing lies: no text is in them as well as in another.
func spansOf(l []api.Region) []span {
	var spans []span
	for _, r := range l {
		if Covers(r, r.Start) {
			spans = append(spans, span(r))
		}
	}
	return spans
}

func (s span) order(t span) int { return bytes.Compare(s.Start, t.Start) }
