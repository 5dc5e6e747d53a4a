package list

import (
	"iter"
	"slices"

	"stanzakeep/api"
)

// entry is an item of a list. A stanza has a number, any other item 0.
type entry struct {
	api.Item
	id int
}

// item is the entry's item, in new memory.
func (e entry) item() api.Item {
	item := e.Item
	item.Fields = slices.Clone(item.Fields)
	return item
}

// stanza is the entry's stanza, in new memory.
func (e entry) stanza() api.Stanza {
	return api.Stanza{ID: e.id, Fields: slices.Clone(e.Fields)}
}

// stanzas goes through the stanzas among entries, each with its place among these.
func stanzas(entries []entry) iter.Seq2[int, entry] {
	return func(yield func(int, entry) bool) {
		next := from(entries)
		for {
			at, ok := next()
			if !ok || !yield(at, entries[at]) {
				return
			}
		}
	}
}

// from makes a closure that answers where the stanzas stand among entries, one with each call, then false.
func from(entries []entry) func() (int, bool) {
	next := 0
	return func() (int, bool) {
		for next < len(entries) {
			at := next
			next++
			if entries[at].Kind == api.Record {
				return at, true
			}
		}
		return 0, false
	}
}
