package edit_test

import (
	"errors"
	"slices"
	"strings"
	"testing"

	"stanzakeep/api"
	"stanzakeep/edit"
	"stanzakeep/list"
)

// The chapter's words in the plainest way there is: the tests hold the calls against these.

// plainList is the stanzas of a list alone; a nil one is that of a nil List.
type plainList struct {
	rows []api.Stanza
	next int
}

// plainOf is what is shown of a list.
func plainOf(l *list.List) *plainList {
	if l == nil {
		return nil
	}
	return &plainList{l.Stanzas(), l.Next()}
}

// plainField tells what is wrong with a field.
func plainField(f api.Field) error {
	if n := len(f.Key); n < 1 || n > 32 || strings.Contains("# \t", f.Key[:1]) || strings.ContainsAny(f.Key, ":\n") {
		return api.ErrKey
	}
	if len(f.Value) > 1000 {
		return api.ErrValue
	}
	return nil
}

// plainFields tells what is wrong with a stanza's fields, without a place.
func plainFields(fields []api.Field) error {
	if len(fields) == 0 {
		return api.ErrForm
	}
	if len(fields) > 40 {
		return api.ErrFull
	}
	for _, f := range fields {
		if err := plainField(f); err != nil {
			return err
		}
	}
	return nil
}

// plainCheck is Check.
func plainCheck(batch []api.Edit) error {
	if len(batch) < 1 || len(batch) > 40 {
		return api.ErrRange
	}
	for i, x := range batch {
		var err error
		if x.Kind < 1 || x.Kind > 3 || x.Kind == api.Delete && len(x.Fields) > 0 {
			err = api.ErrForm
		} else if x.Kind != api.Delete {
			err = plainFields(x.Fields)
		}
		if err != nil {
			return &api.Fault{At: i, Err: err}
		}
	}
	return nil
}

// where is the place of a stanza, or -1.
func (p *plainList) where(id int) int {
	if p == nil {
		return -1
	}
	return slices.IndexFunc(p.rows, func(s api.Stanza) bool { return s.ID == id })
}

// after is the list behind a good edit, or what layer 7 says of it.
func (p *plainList) after(x api.Edit) (*plainList, error) {
	at := p.where(x.ID)
	if at < 0 && (p == nil || x.Kind != api.Insert || x.ID != 0) {
		return nil, api.ErrNone
	}
	q := &plainList{next: p.next}
	if x.Kind == api.Insert {
		if len(p.rows) == 400 {
			return nil, api.ErrFull
		}
		q.next++
		q.rows = append(q.rows, p.rows[:at+1]...)
		q.rows = append(q.rows, api.Stanza{ID: p.next, Fields: x.Fields})
		q.rows = append(q.rows, p.rows[at+1:]...)
		return q, nil
	}
	q.rows = append(q.rows, p.rows[:at]...)
	if x.Kind == api.Replace {
		q.rows = append(q.rows, api.Stanza{ID: x.ID, Fields: x.Fields})
	}
	q.rows = append(q.rows, p.rows[at+1:]...)
	return q, nil
}

// plainDo is all lists ahead of and behind the edits of a batch, or Do's error.
func plainDo(p *plainList, batch []api.Edit) ([]*plainList, error) {
	if err := plainCheck(batch); err != nil {
		return nil, err
	}
	all := []*plainList{p}
	for i, x := range batch {
		q, err := all[i].after(x)
		if err != nil {
			return nil, &api.Fault{At: i, Err: err}
		}
		all = append(all, q)
	}
	return all, nil
}

// plainGiven is the numbers that a batch gives on a list.
func plainGiven(next int, batch []api.Edit) []int {
	var given []int
	for _, x := range batch {
		if x.Kind == api.Insert {
			given = append(given, next+len(given))
		}
	}
	return given
}

// plainBack is the way back of a batch with these lists: first with the numbers as they were, then with the new ones in their place.
func plainBack(all []*plainList, batch []api.Edit) []api.Edit {
	var back []api.Edit
	var came []int
	for i := len(batch) - 1; i >= 0; i-- {
		x, ahead := batch[i], all[i]
		at := ahead.where(x.ID)
		switch x.Kind {
		case api.Replace:
			back = append(back, api.Edit{Kind: api.Replace, ID: x.ID, Fields: ahead.rows[at].Fields})
		case api.Insert:
			back = append(back, api.Edit{Kind: api.Delete, ID: ahead.next})
		case api.Delete:
			behind := 0
			if at > 0 {
				behind = ahead.rows[at-1].ID
			}
			back = append(back, api.Edit{Kind: api.Insert, ID: behind, Fields: ahead.rows[at].Fields})
			came = append(came, x.ID)
		}
	}
	for i := range back {
		if k := slices.Index(came, back[i].ID); k >= 0 {
			back[i].ID = all[len(batch)].next + k
		}
	}
	return back
}

// sameRow tells whether two stanzas are the same; nil and empty fields are.
func sameRow(a, b api.Stanza) bool {
	return a.ID == b.ID && slices.Equal(a.Fields, b.Fields)
}

// sameFields tells whether two stanzas have the same fields.
func sameFields(a, b api.Stanza) bool {
	return slices.Equal(a.Fields, b.Fields)
}

// plainSame is Same.
func plainSame(a, b []api.Edit) bool {
	if len(a) != len(b) {
		return false
	}
	for i := range a {
		if a[i].Kind != b[i].Kind || a[i].ID != b[i].ID || len(a[i].Fields) != len(b[i].Fields) {
			return false
		}
		for k := range a[i].Fields {
			if a[i].Fields[k].Key != b[i].Fields[k].Key || a[i].Fields[k].Value != b[i].Fields[k].Value {
				return false
			}
		}
	}
	return true
}

// sameError tells whether two errors are the same: both bare ones, or both at the same place, with nothing but a bare one there.
func sameError(a, b error) bool {
	var f, g *api.Fault
	if errors.As(a, &f) != errors.As(b, &g) {
		return false
	}
	if f != nil {
		return a == error(f) && f.At == g.At && f.Err == g.Err
	}
	return a == b
}

// stepwise is a list on which a good batch is done edit by edit, by the list's own calls.
func stepwise(l *list.List, batch []api.Edit) *list.List {
	m := l.Copy()
	for _, x := range batch {
		switch x.Kind {
		case api.Replace:
			m.Replace(x.ID, x.Fields...)
		case api.Delete:
			m.Delete(x.ID)
		case api.Insert:
			m.Insert(x.ID, x.Fields...)
		}
	}
	return m
}

// holdShown holds what is shown of a list against another one's, item by item.
func holdShown(t *testing.T, name string, l, m *list.List) {
	t.Helper()
	same := func(a, b api.Item) bool {
		return a.Kind == b.Kind && a.Raw == b.Raw && slices.Equal(a.Fields, b.Fields)
	}
	if (l == nil) != (m == nil) || l.Next() != m.Next() || !slices.EqualFunc(l.Stanzas(), m.Stanzas(), sameRow) || !slices.EqualFunc(l.Items(), m.Items(), same) {
		t.Errorf("%s: %q, not %q", name, l.Text(), m.Text())
	}
}

// hold holds all calls with a batch on a list against the words, and tells whether it was done.
func hold(t *testing.T, l *list.List, batch []api.Edit) bool {
	t.Helper()
	if t.Failed() {
		return false
	}
	before, given := l.Copy(), edit.Copy(batch)
	if err := edit.Check(batch...); !sameError(err, plainCheck(batch)) {
		t.Errorf("Check %v: %v, not %v", batch, err, plainCheck(batch))
	}
	all, want := plainDo(plainOf(l), batch)
	done, ids, err := edit.Do(l, batch...)
	back, backErr := edit.Back(l, batch...)
	if !sameError(err, want) || !sameError(backErr, want) {
		t.Errorf("%v on %q: Do %v, Back %v, not %v", batch, l.Text(), err, backErr, want)
		return false
	}
	holdShown(t, "the list that was handed in", l, before)
	if !plainSame(batch, given) {
		t.Errorf("%v, not %v", batch, given)
	}
	if err != nil {
		if done != nil || len(ids) > 0 || len(back) > 0 {
			t.Errorf("%.200v: %v, but %.100q %v %.200v", batch, err, done.Text(), ids, back)
		}
		return false
	}
	last := all[len(batch)]
	if done == nil || done.Next() != last.next || !slices.EqualFunc(done.Stanzas(), last.rows, sameRow) || !slices.Equal(ids, plainGiven(l.Next(), batch)) {
		t.Errorf("%v on %q: %v %v, not %v", batch, l.Text(), done.Stanzas(), ids, last.rows)
		return false
	}
	holdShown(t, "Do", done, stepwise(l, batch))
	if want := plainBack(all, batch); !plainSame(back, want) {
		t.Errorf("%v on %q: the way back is %v, not %v", batch, l.Text(), back, want)
		return false
	}
	holdBack(t, l, done, back)
	return !t.Failed()
}

// holdBack holds what comes of the way back, done on the list that a batch made.
func holdBack(t *testing.T, l, done *list.List, back []api.Edit) {
	t.Helper()
	was, _, err := edit.Do(done, back...)
	if err != nil || !slices.EqualFunc(was.Stanzas(), l.Stanzas(), sameFields) {
		t.Errorf("%v on %q: %q, not %q: %v", back, done.Text(), was.Text(), l.Text(), err)
		return
	}
	again, err := edit.Back(done, back...)
	if err != nil {
		t.Errorf("%v on %q: %v", back, done.Text(), err)
		return
	}
	if there, _, err := edit.Do(was, again...); err != nil || !slices.EqualFunc(there.Stanzas(), done.Stanzas(), sameFields) {
		t.Errorf("%v on %q: %q, not %q: %v", again, was.Text(), there.Text(), done.Text(), err)
	}
}

// of is a text's list.
func of(t *testing.T, text string) *list.List {
	t.Helper()
	l, err := list.Of(text)
	if err != nil {
		t.Fatalf("%.100q: %v", text, err)
	}
	return l
}

// fields are fields of these keys and values, by turns.
func fields(said ...string) []api.Field {
	var all []api.Field
	for pair := range slices.Chunk(said, 2) {
		all = append(all, api.Field{Key: pair[0], Value: pair[1]})
	}
	return all
}

// replace, drop and insert are edits of each kind; the fields are keys and values, by turns.
func replace(id int, said ...string) api.Edit {
	return api.Edit{Kind: api.Replace, ID: id, Fields: fields(said...)}
}
func drop(id int) api.Edit { return api.Edit{Kind: api.Delete, ID: id} }
func insert(id int, said ...string) api.Edit {
	return api.Edit{Kind: api.Insert, ID: id, Fields: fields(said...)}
}

// x is a text of n bytes.
func x(n int) string {
	return strings.Repeat("x", n)
}
