package replay_test

import (
	"errors"
	"math"
	"slices"
	"strings"
	"testing"

	"stanzakeep/api"
	"stanzakeep/book"
	"stanzakeep/edit"
	"stanzakeep/list"
	"stanzakeep/print"
	"stanzakeep/replay"
	"stanzakeep/stanza"
)

// The chapter's words in the plainest way there is: the tests hold the calls against these.

// plainList is a list: its items, each with its number, 0 but for stanzas.
type plainList struct {
	items []api.Item
	ids   []int
	next  int
}

// plainOf is the list of a base text that is good.
func plainOf(items []api.Item) *plainList {
	p := &plainList{next: 1}
	for _, item := range items {
		p.put(len(p.ids), item)
	}
	return p
}

// put puts an item at a place; a stanza has the next number then.
func (p *plainList) put(at int, item api.Item) {
	id := 0
	if item.Kind == api.Record {
		id = p.next
		p.next++
	}
	p.items = slices.Insert(p.items, at, item)
	p.ids = slices.Insert(p.ids, at, id)
}

// do does an edit of a good batch, and tells whether it wasn't refused.
func (p *plainList) do(x api.Edit) bool {
	at := -1
	if x.ID != 0 {
		at = slices.Index(p.ids, x.ID)
	}
	if at < 0 && (x.Kind != api.Insert || x.ID != 0) {
		return false
	}
	item, _ := print.Item(x.Fields...)
	switch x.Kind {
	case api.Replace:
		p.items[at] = item
	case api.Delete:
		p.items = slices.Delete(p.items, at, at+1)
		p.ids = slices.Delete(p.ids, at, at+1)
	case api.Insert:
		if len(p.stanzas()) == 400 {
			return false
		}
		p.put(at+1, item)
	}
	return true
}

// stanzas is the list's stanzas.
func (p *plainList) stanzas() []api.Stanza {
	var all []api.Stanza
	for i, id := range p.ids {
		if id != 0 {
			all = append(all, api.Stanza{ID: id, Fields: p.items[i].Fields})
		}
	}
	return all
}

// plainPlay is a book's list behind n batches, and what each batch inserted.
func plainPlay(b book.Book, n int) (*plainList, [][]int, error) {
	items, err := stanza.Parse(b.Base)
	if err != nil {
		return nil, nil, err
	}
	p := plainOf(items)
	var given [][]int
	for i, batch := range b.Batches[:n] {
		first, refused := p.next, edit.Check(batch...) != nil
		for _, x := range batch {
			refused = refused || !p.do(x)
		}
		if refused {
			return nil, nil, &api.Fault{At: i, Err: api.ErrCorrupt}
		}
		var ids []int
		for id := first; id < p.next; id++ {
			ids = append(ids, id)
		}
		given = append(given, ids)
	}
	return p, given, nil
}

// plainBase is Base.
func plainBase(b book.Book, id int) bool {
	if _, _, err := plainPlay(b, len(b.Batches)); err != nil {
		return false
	}
	first, _, _ := plainPlay(b, 0)
	if id == 0 || !slices.Contains(first.ids, id) {
		return false
	}
	for _, batch := range b.Batches {
		for _, x := range batch {
			if x.ID == id && (x.Kind == api.Replace || x.Kind == api.Delete) {
				return false
			}
		}
	}
	return true
}

// sameItem and sameStanza tell whether two of them are the same; nil and empty fields are.
func sameItem(a, b api.Item) bool {
	return a.Kind == b.Kind && a.Raw == b.Raw && slices.Equal(a.Fields, b.Fields)
}
func sameStanza(a, b api.Stanza) bool {
	return a.ID == b.ID && slices.Equal(a.Fields, b.Fields)
}

// sameError tells whether two errors are the same: both bare ones, or both at the same place, with nothing but a bare one there.
func sameError(a, b error) bool {
	var f, g *api.Fault
	if errors.As(a, &f) != errors.As(b, &g) {
		return false
	}
	if f != nil {
		return a == error(f) && f.At == g.At && f.Err == g.Err
	}
	return a == b
}

// sameBook tells whether two books are the same.
func sameBook(a, b book.Book) bool {
	return a.Gen == b.Gen && a.Base == b.Base && slices.EqualFunc(a.Batches, b.Batches, edit.Same) && slices.Equal(a.Ends, b.Ends) && a.Tail == b.Tail
}

// sameGiven tells whether two lists of numbers are the same.
func sameGiven(a, b [][]int) bool {
	return slices.EqualFunc(a, b, slices.Equal[[]int])
}

// copyBook is the same book in new memory.
func copyBook(b book.Book) book.Book {
	var batches [][]api.Edit
	for _, batch := range b.Batches {
		batches = append(batches, edit.Copy(batch))
	}
	b.Batches, b.Ends = batches, slices.Clone(b.Ends)
	return b
}

// holdList holds all that is shown of a list, and an error, against the plain ones.
func holdList(t *testing.T, name string, l *list.List, err error, want *plainList, wantErr error) {
	t.Helper()
	if !sameError(err, wantErr) || (l == nil) != (want == nil) {
		t.Errorf("%s: %q %v, not %v", name, l.Text(), err, wantErr)
		return
	}
	if want == nil {
		return
	}
	if l.Next() != want.next || !slices.EqualFunc(l.Stanzas(), want.stanzas(), sameStanza) || !slices.EqualFunc(l.Items(), want.items, sameItem) || l.Text() != print.Render(want.items...) {
		t.Errorf("%s: %.300q, next %d, not %.300q, next %d", name, l.Text(), l.Next(), print.Render(want.items...), want.next)
	}
}

// holdBook holds all calls with a book against the words, and tells whether it has a list.
func holdBook(t *testing.T, b book.Book) bool {
	t.Helper()
	if t.Failed() {
		return false
	}
	before, most := copyBook(b), len(b.Batches)
	want, wantGiven, wantErr := plainPlay(b, most)
	l, err := replay.Of(b)
	holdList(t, "Of", l, err, want, wantErr)
	for _, n := range append([]int{math.MinInt, -2, -1, most + 1, most + 2, math.MaxInt}, upTo(most)...) {
		var wantN *plainList
		var wantNErr error = api.ErrRange
		if n >= 0 && n <= most {
			wantN, _, wantNErr = plainPlay(b, n)
		}
		ln, err := replay.Behind(b, n)
		holdList(t, "Behind", ln, err, wantN, wantNErr)
	}
	given, err := replay.Given(b)
	if !sameGiven(given, wantGiven) || !sameError(err, wantErr) {
		t.Errorf("Given: %v %v, not %v %v", given, err, wantGiven, wantErr)
	}
	next := 3
	if want != nil {
		next = want.next
	}
	for _, id := range append([]int{math.MinInt, -2, -1, next + 1, math.MaxInt}, upTo(next)...) {
		if got := replay.Base(b, id); got != plainBase(b, id) {
			t.Errorf("Base %d: %v", id, got)
		}
	}
	if !sameBook(b, before) {
		t.Errorf("the book: %.300v, not %.300v", b, before)
	}
	if t.Failed() {
		t.Logf("of the book %.1000v", b)
	}
	return want != nil
}

// holdText holds what Text says of a text against the words, and answers it.
func holdText(t *testing.T, text string) (book.Book, *list.List, error) {
	t.Helper()
	wantBook, wantErr := book.Read(text)
	var want *plainList
	if wantErr == nil {
		if want, _, wantErr = plainPlay(wantBook, len(wantBook.Batches)); wantErr != nil {
			wantBook = book.Book{}
		}
	}
	b, l, err := replay.Text(text)
	if !sameBook(b, wantBook) {
		t.Errorf("%.300q: %.300v, not %.300v", text, b, wantBook)
	}
	holdList(t, "Text", l, err, want, wantErr)
	if t.Failed() {
		t.Logf("of the text %.1000q", text)
	}
	return b, l, err
}

// holdSame holds all that is shown of a list against another one's.
func holdSame(t *testing.T, name string, l, m *list.List) {
	t.Helper()
	if (l == nil) != (m == nil) || l.Next() != m.Next() || l.Text() != m.Text() || !slices.EqualFunc(l.Stanzas(), m.Stanzas(), sameStanza) || !slices.EqualFunc(l.Items(), m.Items(), sameItem) {
		t.Errorf("%s: %.300q, next %d, not %.300q, next %d", name, l.Text(), l.Next(), m.Text(), m.Next())
	}
}

// upTo is the numbers from 0 to n.
func upTo(n int) []int {
	var all []int
	for i := range n + 1 {
		all = append(all, i)
	}
	return all
}

// appended is a text with the records of some batches behind it.
func appended(t *testing.T, text string, batches ...[]api.Edit) string {
	t.Helper()
	for _, batch := range batches {
		next, err := book.Appended(text, batch...)
		if err != nil {
			t.Fatalf("%.300q and %.300v: %v", text, batch, err)
		}
		text = next
	}
	return text
}

// fields are fields of these keys and values, by turns.
func fields(said ...string) []api.Field {
	var all []api.Field
	for pair := range slices.Chunk(said, 2) {
		all = append(all, api.Field{Key: pair[0], Value: pair[1]})
	}
	return all
}

// replace, drop and insert are edits of each kind; the fields are keys and values, by turns.
func replace(id int, said ...string) api.Edit {
	return api.Edit{Kind: api.Replace, ID: id, Fields: fields(said...)}
}
func drop(id int) api.Edit { return api.Edit{Kind: api.Delete, ID: id} }
func insert(id int, said ...string) api.Edit {
	return api.Edit{Kind: api.Insert, ID: id, Fields: fields(said...)}
}

// many is a text of n stanzas.
func many(n int) string {
	return strings.Repeat("A: 1\n\n", n)
}

// x is a text of n bytes.
func x(n int) string {
	return strings.Repeat("x", n)
}
