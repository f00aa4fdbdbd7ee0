package view

import (
	"slices"

	"belated/api"
)

// row is the messages of a Run: of that at place k, whose time is k + 1, its
// location.
type row []int

// messagesOf is those of a Run. Of a number in Order that is no event there is
// none, but it takes its time.
func messagesOf(r api.Run) row {
	var messages row
	for _, w := range r.Order {
		loc := -1
		if w >= 0 && w < len(r.Events) {
			loc = r.Events[w].Span.Loc
		}
		messages = append(messages, loc)
	}
	return messages
}

// passedOver is whether there is a message of a location above one time, and
// not above another.
func (messages row) passedOver(loc, above, upTo int) bool {
	for k, at := range messages {
		if time := k + 1; at == loc && time > above && time <= upTo {
			return true
		}
	}
	return false
}

// timeAt is the time of what a thread does at a place of its path: of a write
// its own, of a read that of its source, 0 of what was there at first.
func timeAt(r api.Run, thread, place int) int {
	n := slices.IndexFunc(r.Events, func(e api.Event) bool { return e.Thread == thread && e.Pos == place })
	if n >= 0 && r.Events[n].Reads {
		n = sourceOf(r, n)
	}
	return slices.Index(r.Order, n) + 1
}

// sourceOf is the write from which a read takes all its bytes, -1 for Init:
// where each access touches all of a location, any byte tells of all.
func sourceOf(r api.Run, read int) int {
	for _, s := range r.Sources {
		if s.Event == read {
			return s.From
		}
	}
	return -1
}
