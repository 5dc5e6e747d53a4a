package list_test

import (
	"errors"
	"math"
	"slices"
	"strings"
	"testing"

	"stanzakeep/api"
	"stanzakeep/list"
	"stanzakeep/print"
	"stanzakeep/stanza"
)

// The chapter's words in the plainest way there is: the tests hold the calls against these.

// plainItem is an item; a stanza has a number, any other item 0.
type plainItem struct {
	item api.Item
	id   int
}

// plainList is a list; a nil one is that of a nil List.
type plainList struct {
	items []plainItem
	next  int
}

// plainOf is the list of a text that is good.
func plainOf(text string) *plainList {
	items, _ := stanza.Parse(text)
	p := &plainList{next: 1}
	for _, item := range items {
		id := 0
		if item.Kind == api.Record {
			id = p.next
			p.next++
		}
		p.items = append(p.items, plainItem{item, id})
	}
	return p
}

// where is the place of stanza id among all items, or -1.
func (p *plainList) where(id int) int {
	if p == nil || id == 0 {
		return -1
	}
	return slices.IndexFunc(p.items, func(x plainItem) bool { return x.id == id })
}

// ids is the numbers of the stanzas, in order.
func (p *plainList) ids() []int {
	var ids []int
	if p != nil {
		for _, x := range p.items {
			if x.id != 0 {
				ids = append(ids, x.id)
			}
		}
	}
	return ids
}

// records is the items, as they come.
func (p *plainList) records() []api.Item {
	var items []api.Item
	if p != nil {
		for _, x := range p.items {
			items = append(items, x.item)
		}
	}
	return items
}

// copy is another list like it.
func (p *plainList) copy() *plainList {
	return &plainList{slices.Clone(p.items), p.next}
}

// act is one of the calls that change a list: 'r', 'd' or 'i'.
type act struct {
	kind   byte
	id     int
	fields []api.Field
}

// do does an act: the number, and the error, that it answers.
func (p *plainList) do(a act) (int, error) {
	at := p.where(a.id)
	ahead := a.kind == 'i' && a.id == 0 && p != nil
	if at < 0 && !ahead {
		return 0, api.ErrNone
	}
	if a.kind == 'd' {
		p.items = append(slices.Clone(p.items[:at]), p.items[at+1:]...)
		return 0, nil
	}
	if err := print.Check(a.fields...); err != nil {
		return 0, err
	}
	item, _ := print.Item(a.fields...)
	if a.kind == 'r' {
		p.items = slices.Clone(p.items)
		p.items[at].item = item
		return 0, nil
	}
	if len(p.ids()) >= 400 {
		return 0, api.ErrFull
	}
	id := p.next
	p.next++
	head := append(slices.Clone(p.items[:at+1]), plainItem{item, id})
	p.items = append(head, p.items[at+1:]...)
	return id, nil
}

// doTo does an act on a list: the number, and the error, that it answers.
func (a act) doTo(l *list.List) (int, error) {
	switch a.kind {
	case 'r':
		return 0, l.Replace(a.id, a.fields...)
	case 'd':
		return 0, l.Delete(a.id)
	}
	return l.Insert(a.id, a.fields...)
}

// sameItem tells whether two items are the same; nil and empty fields are.
func sameItem(a, b api.Item) bool {
	return a.Kind == b.Kind && a.Raw == b.Raw && slices.Equal(a.Fields, b.Fields)
}

// sameStanza tells whether two stanzas are the same.
func sameStanza(a, b api.Stanza) bool {
	return a.ID == b.ID && slices.Equal(a.Fields, b.Fields)
}

// sameError tells whether two errors are the same: both bare ones, or both at the same place.
func sameError(a, b error) bool {
	var f, g *api.Fault
	if errors.As(a, &f) != errors.As(b, &g) {
		return false
	}
	if f != nil {
		return f.At == g.At && f.Err == g.Err
	}
	return a == b
}

// holdAct does an act on both, and holds what is answered, and then all that is shown.
func holdAct(t *testing.T, l *list.List, p *plainList, a act) {
	t.Helper()
	if t.Failed() {
		return
	}
	want, wantErr := p.do(a)
	got, err := a.doTo(l)
	if got != want || !sameError(err, wantErr) {
		t.Errorf("%c %d %q: %d %v, not %d %v", a.kind, a.id, a.fields, got, err, want, wantErr)
	}
	hold(t, l, p)
}

// hold holds all that is shown of a list against the plain one.
func hold(t *testing.T, l *list.List, p *plainList) {
	t.Helper()
	if t.Failed() {
		return
	}
	ids, items, next := p.ids(), p.records(), 0
	if p != nil {
		next = p.next
	}
	if got := l.Items(); !slices.EqualFunc(got, items, sameItem) {
		t.Errorf("Items: %v, not %v", got, items)
	}
	if got := l.Text(); got != print.Render(items...) {
		t.Errorf("Text: %q, not %q", got, print.Render(items...))
	}
	if l.Len() != len(ids) || l.Next() != next {
		t.Errorf("Len %d, Next %d, not %d, %d", l.Len(), l.Next(), len(ids), next)
	}
	var stanzas []api.Stanza
	for _, id := range ids {
		stanzas = append(stanzas, api.Stanza{ID: id, Fields: p.items[p.where(id)].item.Fields})
	}
	if got := l.Stanzas(); !slices.EqualFunc(got, stanzas, sameStanza) {
		t.Errorf("Stanzas: %v, not %v", got, stanzas)
	}
	for id := -1; id <= next+1; id++ {
		holdOne(t, l, p, id)
	}
	holdOne(t, l, p, math.MinInt)
	holdOne(t, l, p, math.MaxInt)
}

// holdOne holds what is shown of one number.
func holdOne(t *testing.T, l *list.List, p *plainList, id int) {
	t.Helper()
	want, wantOk := api.Item{}, false
	if at := p.where(id); at >= 0 {
		want, wantOk = p.items[at].item, true
	}
	if got, ok := l.Get(id); ok != wantOk || !slices.Equal(got, want.Fields) {
		t.Errorf("Get %d: %v %v, not %v %v", id, got, ok, want.Fields, wantOk)
	}
	if got, ok := l.Raw(id); ok != wantOk || got != want.Raw {
		t.Errorf("Raw %d: %q %v, not %q %v", id, got, ok, want.Raw, wantOk)
	}
	if got := l.Place(id); got != slices.Index(p.ids(), id) {
		t.Errorf("Place %d: %d, not %d", id, got, slices.Index(p.ids(), id))
	}
}

// of is a text's list, and the plain one.
func of(t *testing.T, text string) (*list.List, *plainList) {
	t.Helper()
	l, err := list.Of(text)
	if err != nil || l == nil {
		t.Fatalf("%.100q: %v", text, err)
	}
	return l, plainOf(text)
}

// fields are fields of these keys and values, by turns.
func fields(said ...string) []api.Field {
	var all []api.Field
	for pair := range slices.Chunk(said, 2) {
		all = append(all, api.Field{Key: pair[0], Value: pair[1]})
	}
	return all
}

// x is a text of n bytes.
func x(n int) string {
	return strings.Repeat("x", n)
}
