package book_test

import (
	"errors"
	"regexp"
	"slices"
	"strconv"
	"strings"
	"testing"

	"stanzakeep/amend"
	"stanzakeep/api"
	"stanzakeep/book"
	"stanzakeep/edit"
	"stanzakeep/frame"
	"stanzakeep/stanza"
	"stanzakeep/sum"
)

// The chapter's words in the plainest way there is: the tests hold the calls against these.

var (
	plainHeader = regexp.MustCompile(`^#%gen ([1-9][0-9]{0,9})\n\n`)
	plainHead   = regexp.MustCompile(`^%amend ([1-9][0-9]{0,4}) ([0-9a-f]{8})\n`)
)

// plainTake is a text's generation, and how many bytes its header has.
func plainTake(text string) (int, int) {
	parts := plainHeader.FindStringSubmatch(text)
	if parts == nil {
		return 0, 0
	}
	gen, _ := strconv.ParseInt(parts[1], 10, 64)
	if gen > 1<<31 {
		return 0, 0
	}
	return int(gen), len(parts[0])
}

// plainBegins tells whether a line begins records: it begins with %, and no good key ends at its first colon.
func plainBegins(line string) bool {
	colon := strings.IndexByte(line, ':')
	return line != "" && line[0] == '%' && (colon < 0 || colon > 32)
}

// plainBase is how many of a text's bytes, from a place on, are the base text.
func plainBase(text string, from int) int {
	for at := from; at < len(text); {
		line, _, _ := strings.Cut(text[at:], "\n")
		if plainBegins(line) {
			return at - from
		}
		at += len(line) + 1
	}
	return len(text) - from
}

// plainRecord is the record of a body.
func plainRecord(body string) string {
	n := strconv.FormatInt(int64(len(body)), 10)
	return "%amend " + n + " " + sum.Figures(sum.Sum(body)) + "\n" + body + "%end " + n + "\n"
}

// plainWhole is the body of the record that a text begins with, and whether it begins with one.
func plainWhole(text string) (string, bool) {
	parts := plainHead.FindStringSubmatch(text)
	if parts == nil {
		return "", false
	}
	n, _ := strconv.Atoi(parts[1])
	rest := text[len(parts[0]):]
	if n > len(rest) || n > 50000 {
		return "", false
	}
	return rest[:n], strings.HasPrefix(text, plainRecord(rest[:n]))
}

// plainRead is Read.
func plainRead(text string) (book.Book, error) {
	if len(text) > 120000 {
		return book.Book{}, api.ErrRange
	}
	gen, at := plainTake(text)
	base := text[at : at+plainBase(text, at)]
	if _, err := stanza.Parse(base); err != nil {
		return book.Book{}, err
	}
	b := book.Book{Gen: gen, Base: base}
	at += len(base)
	for {
		body, ok := plainWhole(text[at:])
		if !ok {
			break
		}
		batch, err := amend.Decode(body)
		if err != nil {
			return book.Book{}, &api.Fault{At: len(b.Ends), Err: api.ErrCorrupt}
		}
		at += len(plainRecord(body))
		b.Batches, b.Ends = append(b.Batches, batch), append(b.Ends, at)
	}
	if kind, _, _ := frame.Read(text[at:]); kind != frame.Part {
		return book.Book{}, &api.Fault{At: len(b.Ends), Err: api.ErrCorrupt}
	}
	b.Tail = text[at:]
	return b, nil
}

// plainAppended is Appended.
func plainAppended(text string, batch []api.Edit) (string, error) {
	b, err := plainRead(text)
	if err != nil {
		return "", err
	}
	if err := edit.Check(batch...); err != nil {
		return "", err
	}
	body, err := amend.Encode(batch...)
	if err != nil {
		return "", err
	}
	whole := text[:len(text)-len(b.Tail)] + plainRecord(body)
	if len(body) > 50000 || len(whole) > 120000 {
		return "", api.ErrFull
	}
	return whole, nil
}

// plainFresh is Fresh.
func plainFresh(gen int, text string) (string, error) {
	if gen < 0 || gen > 1<<31 {
		return "", api.ErrRange
	}
	if _, err := stanza.Parse(text); err != nil {
		return "", err
	}
	if gen == 0 {
		return text, nil
	}
	return "#%gen " + strconv.FormatInt(int64(gen), 10) + "\n\n" + text, nil
}

// sameError tells whether two errors are the same: both bare ones, or both at the same place, with nothing but a bare one there.
func sameError(a, b error) bool {
	var f, g *api.Fault
	if errors.As(a, &f) != errors.As(b, &g) {
		return false
	}
	if f != nil {
		return a == error(f) && f.At == g.At && f.Err == g.Err
	}
	return a == b
}

// sameBook tells whether two books are the same.
func sameBook(a, b book.Book) bool {
	return a.Gen == b.Gen && a.Base == b.Base && slices.EqualFunc(a.Batches, b.Batches, edit.Same) && slices.Equal(a.Ends, b.Ends) && a.Tail == b.Tail
}

// holdText holds what Read says of a text against the words, and answers its book, and whether it has one.
func holdText(t *testing.T, text string) (book.Book, bool) {
	t.Helper()
	want, wantErr := plainRead(text)
	b, err := book.Read(text)
	if !sameBook(b, want) || !sameError(err, wantErr) {
		t.Errorf("%.300q (%d bytes): %.300v %v, not %.300v %v", text, len(text), b, err, want, wantErr)
		return b, false
	}
	if err != nil {
		return b, false
	}
	if b.Size() != len(text) || b.Whole() != len(text)-len(b.Tail) {
		t.Errorf("%.300q (%d bytes): of %d bytes, %d of them whole", text, len(text), b.Size(), b.Whole())
	}
	return b, true
}

// holdAppended holds what Appended says against the words, and answers it, and whether the batch was appended.
func holdAppended(t *testing.T, text string, batch ...api.Edit) (string, bool) {
	t.Helper()
	want, wantErr := plainAppended(text, batch)
	next, err := book.Appended(text, batch...)
	if next != want || !sameError(err, wantErr) {
		t.Errorf("%.300q (%d bytes) and %.300v: %.300q (%d bytes) %v, not %.300q (%d bytes) %v", text, len(text), batch, next, len(next), err, want, len(want), wantErr)
		return next, false
	}
	return next, err == nil
}

// holdFresh holds what Fresh says against the words, and answers it, and whether there is such a file.
func holdFresh(t *testing.T, gen int, text string) (string, bool) {
	t.Helper()
	want, wantErr := plainFresh(gen, text)
	fresh, err := book.Fresh(gen, text)
	if fresh != want || !sameError(err, wantErr) {
		t.Errorf("%d, %.300q (%d bytes): %.300q %v, not %.300q %v", gen, text, len(text), fresh, err, want, wantErr)
		return fresh, false
	}
	return fresh, err == nil
}

// eachText hands over all texts of up to n of some pieces.
func eachText(pieces []string, n int, hand func(string)) {
	hand("")
	if n == 0 {
		return
	}
	for _, piece := range pieces {
		eachText(pieces, n-1, func(text string) { hand(piece + text) })
	}
}

// fields are fields of these keys and values, by turns.
func fields(said ...string) []api.Field {
	var all []api.Field
	for pair := range slices.Chunk(said, 2) {
		all = append(all, api.Field{Key: pair[0], Value: pair[1]})
	}
	return all
}

// replace, drop and insert are edits of each kind; the fields are keys and values, by turns.
func replace(id int, said ...string) api.Edit {
	return api.Edit{Kind: api.Replace, ID: id, Fields: fields(said...)}
}
func drop(id int) api.Edit { return api.Edit{Kind: api.Delete, ID: id} }
func insert(id int, said ...string) api.Edit {
	return api.Edit{Kind: api.Insert, ID: id, Fields: fields(said...)}
}

// x is a text of n bytes.
func x(n int) string {
	return strings.Repeat("x", n)
}

// sized is a batch whose text has n bytes, of more than some 1100.
func sized(n int) []api.Edit {
	batch := []api.Edit{insert(0)}
	add := func(bytes int) { // of a field's line
		last := &batch[len(batch)-1]
		last.Fields = append(last.Fields, api.Field{Key: "A", Value: x(bytes - len("  A: \n"))})
	}
	left := n - len(" insert 0\n")
	for ; left > 1500; left -= 1000 {
		add(1000)
		if len(batch[len(batch)-1].Fields) == 40 {
			batch = append(batch, insert(0))
			left -= len(" insert 0\n")
		}
	}
	add(left / 2)
	add(left - left/2)
	return batch
}

// remark is a base text of n bytes, of one comment.
func remark(n int) string {
	return "#" + x(n-2) + "\n"
}
