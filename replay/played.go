package replay

import (
	"stanzakeep/api"
	"stanzakeep/edit"
	"stanzakeep/list"
)

// played is a base text's list, on which batches were done.
type played struct {
	*list.List
	first int     // the first number that no stanza of the base text has
	given [][]int // of each batch the numbers of the stanzas that it inserted
}

// play does batches on a base text's list, one behind the other.
func play(base string, batches [][]api.Edit) (played, error) {
	l, err := list.Of(base)
	if err != nil {
		return played{}, err
	}
	p := played{List: l, first: l.Next()}
	for at, batch := range batches {
		if !p.do(batch) {
			return played{}, &api.Fault{At: at, Err: api.ErrCorrupt}
		}
	}
	return p, nil
}

// do does one batch more, and tells whether it wasn't refused.
func (p *played) do(batch []api.Edit) bool {
	done, ids, err := edit.Do(p.List, batch...)
	if err != nil {
		return false
	}
	p.List, p.given = done, append(p.given, ids)
	return true
}

// based tells whether the base text has a stanza of that number.
func (p *played) based(id int) bool {
	return id >= 1 && id < p.first
}
