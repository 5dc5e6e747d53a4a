package compact_test

import (
	"math/rand/v2"
	"slices"
	"strconv"
	"strings"
	"testing"

	"stanzakeep/api"
	"stanzakeep/book"
	"stanzakeep/compact"
	"stanzakeep/edit"
	"stanzakeep/print"
	"stanzakeep/replay"
	"stanzakeep/stanza"
)

// The chapter's words in the plainest way there is: the tests hold the calls against these. Which texts are wrong, which
// bytes stand ahead of the records and what a stanza's text is, they ask of layers 14, 13 and 6.

// piece is an item: its bytes, and its number, if it is a stanza; 0 if it is none.
type piece struct {
	raw string
	id  int
}

// blank tells whether it is a blank line.
func (p piece) blank() bool {
	return strings.Trim(p.raw, " \t\n") == ""
}

// cut is the pieces of a base text that is good.
func cut(base string) []piece {
	var pieces []piece
	ids := 0
	within := false // a block
	for line := range strings.Lines(base) {
		if strings.Trim(line, " \t\n") == "" {
			pieces, within = append(pieces, piece{raw: line}), false
			continue
		}
		if !within {
			pieces, within = append(pieces, piece{}), true
		}
		block := &pieces[len(pieces)-1]
		block.raw += line
		if block.id == 0 && !strings.Contains("# \t", line[:1]) {
			ids++
			block.id = ids
		}
	}
	return pieces
}

// done is the pieces behind batches that are all taken.
func done(pieces []piece, batches [][]api.Edit) []piece {
	next := 1
	for _, p := range pieces {
		next = max(next, p.id+1)
	}
	for _, x := range slices.Concat(batches...) {
		raw, _ := print.Stanza(x.Fields...)
		at := -1
		if x.ID > 0 {
			at = slices.IndexFunc(pieces, func(p piece) bool { return p.id == x.ID })
		}
		switch x.Kind {
		case api.Replace:
			pieces[at].raw = raw
		case api.Delete:
			pieces = slices.Delete(pieces, at, at+1)
		case api.Insert:
			pieces = slices.Insert(pieces, at+1, piece{raw, next})
			next++
		}
	}
	return pieces
}

// joined is the text of pieces, put apart.
func joined(pieces []piece) string {
	text := ""
	for i, p := range pieces {
		if i > 0 && !p.blank() && !pieces[i-1].blank() {
			text += "\n"
		}
		text += p.raw
	}
	return text
}

// stanzas is those of the pieces that are.
func stanzas(pieces []piece) []piece {
	return slices.DeleteFunc(slices.Clone(pieces), func(p piece) bool { return p.id == 0 })
}

// plain is what the chapter says of a text.
type plain struct {
	book          book.Book
	base, live    []piece
	err, freshErr error // of Touched; of the other calls
	fresh         string
	touched       []int
}

// told is what the chapter says of a text.
func told(text string) plain {
	var p plain
	p.book, _, p.err = replay.Text(text)
	if p.freshErr = p.err; p.err != nil {
		return p
	}
	p.base = cut(p.book.Base)
	p.live = done(slices.Clone(p.base), p.book.Batches)
	for _, s := range stanzas(p.live) {
		if !slices.Contains(p.base, s) {
			p.touched = append(p.touched, s.id)
		}
	}
	slices.Sort(p.touched)
	switch live := joined(p.live); {
	case p.book.Gen == 2147483648:
		p.freshErr = api.ErrRange
	case len(live) > 60000:
		p.freshErr = api.ErrFull
	default:
		p.fresh = "#%gen " + strconv.Itoa(p.book.Gen+1) + "\n\n" + live
	}
	return p
}

// word tells an error by its word, and its place, if it is a Fault.
func word(err error) string {
	if err == nil {
		return "nil"
	}
	if f, ok := err.(*api.Fault); ok {
		if inner, ok := f.Err.(api.Errno); ok {
			return "at " + strconv.Itoa(f.At) + " " + inner.Error()
		}
		return "at " + strconv.Itoa(f.At) + " something else: " + f.Error()
	}
	if e, ok := err.(api.Errno); ok {
		return e.Error()
	}
	return "something else: " + err.Error()
}

// hold holds what all calls answer of a text against the words, and what P16.2 says of it; it tells what Fresh answered as a word.
func hold(t *testing.T, text string) string {
	t.Helper()
	p := told(text)
	fresh, err := compact.Fresh(text)
	if fresh != p.fresh || word(err) != word(p.freshErr) {
		t.Errorf("%.300q: Fresh: %.300q %v, not %.300q %v", text, fresh, err, p.fresh, p.freshErr)
	}
	needed, err := compact.Needed(text)
	if needed != len(p.fresh) || word(err) != word(p.freshErr) {
		t.Errorf("%.300q: Needed: %d %v, not %d %v", text, needed, err, len(p.fresh), p.freshErr)
	}
	saves := 0
	if p.freshErr == nil {
		saves = len(text) - len(p.fresh)
	}
	saved, err := compact.Saved(text)
	if saved != saves || word(err) != word(p.freshErr) {
		t.Errorf("%.300q: Saved: %d %v, not %d %v", text, saved, err, saves, p.freshErr)
	}
	touched, err := compact.Touched(text)
	if !slices.Equal(touched, p.touched) || word(err) != word(p.err) {
		t.Errorf("%.300q: Touched: %v %v, not %v %v", text, touched, err, p.touched, p.err)
	}
	if p.freshErr == nil && !t.Failed() {
		holdFresh(t, p, fresh, touched)
	}
	return word(p.freshErr)
}

// holdFresh holds what P16.2 says of a fresh text.
func holdFresh(t *testing.T, p plain, fresh string, touched []int) {
	t.Helper()
	b, l, err := replay.Text(fresh)
	if err != nil || b.Gen != p.book.Gen+1 || len(b.Batches) != 0 || len(b.Ends) != 0 || b.Tail != "" {
		t.Errorf("%.300q: read as %.300v, %v", fresh, b, err)
		return
	}
	// The plain parser alone reads the list, with the header and without it, as far as it takes texts of that length.
	parsed := fresh
	if len(fresh) > 60000 {
		parsed = b.Base
	}
	items, err := stanza.Parse(parsed)
	read, want := stanza.Stanzas(items), stanzas(p.live)
	if err != nil || len(read) != len(want) || l.Len() != len(want) || l.Next() != len(want)+1 {
		t.Errorf("%.300q: %d stanzas, next %d, not %d: %v", fresh, len(read), l.Next(), len(want), err)
		return
	}
	was, err := replay.Of(p.book)
	if err != nil {
		t.Error(err)
	}
	for i, s := range l.Stanzas() {
		before, _ := was.Get(want[i].id)
		if s.ID != i+1 || !slices.Equal(s.Fields, before) || !slices.Equal(read[i], before) {
			t.Errorf("%.300q: stanza %d is %v, not %v", fresh, s.ID, s.Fields, before)
		}
		raw, _ := l.Raw(s.ID)
		if id := want[i].id; !slices.Contains(touched, id) && !slices.Contains(p.base, piece{raw, id}) {
			t.Errorf("%.300q: %d wasn't touched, but is %q", fresh, id, raw)
		}
	}
	holdAgain(t, fresh, b)
}

// holdAgain holds that what is fresh of what is fresh is the same, but for the generation, and that nothing is touched there.
func holdAgain(t *testing.T, fresh string, b book.Book) {
	t.Helper()
	if touched, err := compact.Touched(fresh); len(touched) != 0 || err != nil {
		t.Errorf("%.300q: touched there: %v %v", fresh, touched, err)
	}
	again, err := compact.Fresh(fresh)
	if b.Gen == 2147483648 {
		if again != "" || err != api.ErrRange {
			t.Errorf("%.300q: %.300q %v", fresh, again, err)
		}
		return
	}
	if want := "#%gen " + strconv.Itoa(b.Gen+1) + "\n\n" + b.Base; again != want || err != nil {
		t.Errorf("%.300q: fresh again: %.300q %v", fresh, again, err)
	}
}

// appended is a text with the records of some batches behind it.
func appended(t *testing.T, text string, batches ...[]api.Edit) string {
	t.Helper()
	for _, batch := range batches {
		next, err := book.Appended(text, batch...)
		if err != nil {
			t.Fatalf("%.300q and %.300v: %v", text, batch, err)
		}
		text = next
	}
	return text
}

// fields are fields of these keys and values, by turns.
func fields(said ...string) []api.Field {
	var all []api.Field
	for pair := range slices.Chunk(said, 2) {
		all = append(all, api.Field{Key: pair[0], Value: pair[1]})
	}
	return all
}

// replace, drop and insert are edits of each kind; the fields are keys and values, by turns.
func replace(id int, said ...string) api.Edit {
	return api.Edit{Kind: api.Replace, ID: id, Fields: fields(said...)}
}
func drop(id int) api.Edit { return api.Edit{Kind: api.Delete, ID: id} }
func insert(id int, said ...string) api.Edit {
	return api.Edit{Kind: api.Insert, ID: id, Fields: fields(said...)}
}

// batch is a batch of these edits.
func batch(edits ...api.Edit) []api.Edit {
	return edits
}

// x is a text of n bytes.
func x(n int) string {
	return strings.Repeat("x", n)
}

// anyBase is some base text that is good.
func anyBase(r *rand.Rand) string {
	blocks := []string{"A: 1\n", "A:1\n", "A:   1\n# in\n", "# c\n", "# c\nB: x\n  y\n\t\n", "#%gen 5\n", "%am: 1\n", "C:\n .\n ..y\n", "# c\nA: 1\nA: 2\n#%gen 3\n"}
	blanks := []string{"\n", "\n", "\n\n", " \n", "\t \n\n"}
	text := ""
	for range r.IntN(7) {
		text += blocks[r.IntN(len(blocks))] + blanks[r.IntN(len(blanks))]
	}
	if r.IntN(2) == 0 {
		text = blanks[r.IntN(len(blanks))] + text
	}
	if r.IntN(2) == 0 {
		text += blocks[r.IntN(len(blocks))]
	}
	return text
}

// anyBatch is some batch that a text's list takes, if there is one among a few.
func anyBatch(t *testing.T, r *rand.Rand, text string) []api.Edit {
	t.Helper()
	_, l, err := replay.Text(text)
	if err != nil {
		t.Fatal(err)
	}
	for range 10 {
		var made []api.Edit
		for range 1 + r.IntN(4) {
			one := api.Edit{Kind: 1 + r.IntN(3), ID: r.IntN(l.Next() + 2)}
			if one.Kind != api.Delete {
				one.Fields = fields([][]string{{"A", "1"}, {"B", ""}, {"C", "\n.y"}, {"%amend 3", "%am"}, {"A", "1", "A", "2"}, {"D", "x\n \ny"}, {"no", "#%gen 3\n\n"}}[r.IntN(7)]...)
			}
			made = append(made, one)
		}
		if _, _, err := edit.Do(l, made...); err == nil {
			return made
		}
	}
	return batch(insert(0, "Z", "26"))
}

// anyFile is some text of a file that is sound, but perhaps for a tail.
func anyFile(t *testing.T, r *rand.Rand) string {
	t.Helper()
	text := []string{"", "", "#%gen 1\n\n", "#%gen 9\n\n", "#%gen 99\n\n", "#%gen 2147483647\n\n", "#%gen 2147483648\n\n"}[r.IntN(7)] + anyBase(r)
	for range r.IntN(5) {
		text = appended(t, text, anyBatch(t, r, text))
	}
	return text + []string{"", "", "%", "%amend 3", "%amend 12 00000000\n delete 1\n"}[r.IntN(5)]
}
