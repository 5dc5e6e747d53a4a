package edit

import (
	"slices"

	"stanzakeep/api"
	"stanzakeep/list"
)

// step is an edit, with what a list tells right ahead of it that the way back asks for.
type step struct {
	api.Edit
	was   []api.Field // of a stanza that is replaced or deleted
	ahead int         // the stanza ahead of one that is deleted; 0: none
	given int         // the number of one that is inserted
}

// look is the step of an edit that comes next on a list.
func look(l *list.List, x api.Edit) step {
	s := step{Edit: x}
	switch x.Kind {
	case api.Replace:
		s.was, _ = l.Get(x.ID)
	case api.Delete:
		s.was, _ = l.Get(x.ID)
		s.ahead = ahead(l, x.ID)
	case api.Insert:
		s.given = l.Next()
	}
	return s
}

// ahead is the stanza ahead of another one; 0, if there is none.
func ahead(l *list.List, id int) int {
	place := l.Place(id)
	if place < 1 {
		return 0
	}
	return l.Stanzas()[place-1].ID
}

// wayBack is the edits that undo steps, on a list whose next new stanza has the number next.
func wayBack(steps []step, next int) []api.Edit {
	returned := map[int]int{} // the new numbers of stanzas that have come back
	now := func(id int) int {
		if number, ok := returned[id]; ok {
			return number
		}
		return id
	}
	var back []api.Edit
	for _, s := range slices.Backward(steps) {
		back = append(back, s.undo(now))
		if s.Kind == api.Delete {
			returned[s.ID] = next
			next++
		}
	}
	return back
}

// undo is the edit that undoes the step, where now tells the number that a stanza has by then.
func (s step) undo(now func(id int) int) api.Edit {
	switch s.Kind {
	case api.Replace:
		return api.Edit{Kind: api.Replace, ID: now(s.ID), Fields: s.was}
	case api.Delete:
		return api.Edit{Kind: api.Insert, ID: now(s.ahead), Fields: s.was}
	default:
		return api.Edit{Kind: api.Delete, ID: now(s.given)}
	}
}
