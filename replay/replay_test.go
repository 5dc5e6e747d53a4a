package replay_test

import (
	"math"
	"math/rand/v2"
	"slices"
	"strings"
	"testing"

	"stanzakeep/api"
	"stanzakeep/book"
	"stanzakeep/edit"
	"stanzakeep/list"
	"stanzakeep/replay"
)

// batch is a batch of these edits.
func batch(edits ...api.Edit) []api.Edit {
	return edits
}

// three is a base text of three stanzas, of which the last one isn't as it would be printed.
const three = "# head\n\nA: 1\n\n# c\n\nA: 2\n# in\nB: x\n y\n\nA:3\n"

// P14.1: the chapter's example, and others, written out.
func TestWrittenOut(t *testing.T) {
	for _, c := range []struct {
		base    string
		batches [][]api.Edit
		want    string
		ids     []int
		next    int
		given   [][]int
		kept    []int // of the base text
	}{
		{"A: 1\n", [][]api.Edit{batch(drop(1))}, "", nil, 2, [][]int{nil}, nil},
		{"", nil, "", nil, 1, nil, nil},
		{"# c\n\n", nil, "# c\n\n", nil, 1, nil, nil},
		{"A:1\n", nil, "A:1\n", []int{1}, 2, nil, []int{1}},
		{three, nil, three, []int{1, 2, 3}, 4, nil, []int{1, 2, 3}},
		{"", [][]api.Edit{batch(insert(0, "A", "1"))}, "A: 1\n", []int{1}, 2, [][]int{{1}}, nil},
		{"A: 1\n", [][]api.Edit{batch(insert(1, "B", "2"))}, "A: 1\n\nB: 2\n", []int{1, 2}, 3, [][]int{{2}}, []int{1}},
		{"A:1\n", [][]api.Edit{batch(insert(0, "B", "2"))}, "B: 2\n\nA:1\n", []int{2, 1}, 3, [][]int{{2}}, []int{1}},
		// What wasn't touched, remarks too, stays as it is.
		{three, [][]api.Edit{batch(replace(1, "A", "7")), batch(drop(2))}, "# head\n\nA: 7\n\n# c\n\n\nA:3\n", []int{1, 3}, 4, [][]int{nil, nil}, []int{3}},
		// A stanza replaced by what it says isn't the base text's any more.
		{"A: 1\n", [][]api.Edit{batch(replace(1, "A", "1"))}, "A: 1\n", []int{1}, 2, [][]int{nil}, nil},
		{"A: 1\n\nA: 2\n", [][]api.Edit{batch(replace(2, "A", "3")), batch(replace(2, "A", "2"))}, "A: 1\n\nA: 2\n", []int{1, 2}, 3, [][]int{nil, nil}, []int{1}},
		// A batch may edit what an earlier one, or itself, inserted; numbers go on from batch to batch.
		{"A: 1\n", [][]api.Edit{batch(insert(1, "B", ""), insert(2, "C", "")), batch(drop(2), insert(3, "D", ""), replace(4, "E", "")), batch(insert(0, "F", ""))},
			"F:\n\nA: 1\n\nC:\n\nE:\n", []int{5, 1, 3, 4}, 6, [][]int{{2, 3}, {4}, {5}}, []int{1}},
		{"", [][]api.Edit{batch(insert(0, "A", ""), drop(1)), batch(insert(0, "B", ""), drop(2)), batch(insert(0, "C", ""))}, "C:\n", []int{3}, 4, [][]int{{1}, {2}, {3}}, nil},
		// A number isn't given again, though its stanza has gone; and an insert behind a stanza doesn't touch that one.
		{"A: 1\n\nB: 2\n", [][]api.Edit{batch(drop(2)), batch(insert(1, "B", "2")), batch(insert(1, "C", ""))}, "A: 1\n\nC:\n\nB: 2\n\n", []int{1, 4, 3}, 5, [][]int{nil, {3}, {4}}, []int{1}},
	} {
		b := book.Book{Base: c.base, Batches: c.batches}
		l, err := replay.Of(b)
		var ids []int
		for _, s := range l.Stanzas() {
			ids = append(ids, s.ID)
		}
		if err != nil || l.Text() != c.want || l.Next() != c.next || !slices.Equal(ids, c.ids) {
			t.Errorf("%q, %v: %q %v, next %d, %v", c.base, c.batches, l.Text(), ids, l.Next(), err)
		}
		if given, err := replay.Given(b); err != nil || !sameGiven(given, c.given) {
			t.Errorf("%q, %v: given %v %v", c.base, c.batches, given, err)
		}
		for id := -1; id <= c.next+1; id++ {
			if replay.Base(b, id) != slices.Contains(c.kept, id) {
				t.Errorf("%q, %v: Base %d", c.base, c.batches, id)
			}
		}
		holdBook(t, b)
		for _, ahead := range []string{"", "#%gen 7\n\n"} {
			holdText(t, appended(t, ahead+c.base, c.batches...))
			holdText(t, appended(t, ahead+c.base, c.batches...)+"%amend 1")
		}
	}
}

// P14.1: a text's book is whole, with its generation, its ends and its tail, and its list that of base text and batches alone.
func TestTextWrittenOut(t *testing.T) {
	text := "#%gen 12\n\nA: 1\n%amend 17 835b6407\n insert 1\n  B: 2\n%end 17\n%amend 10 6662df79\n delete 1\n%end 10\n%am"
	b, l, err := replay.Text(text)
	want := book.Book{Gen: 12, Base: "A: 1\n", Batches: [][]api.Edit{batch(insert(1, "B", "2")), batch(drop(1))}, Ends: []int{59, 96}, Tail: "%am"}
	if err != nil || !sameBook(b, want) || l.Text() != "B: 2\n" || l.Next() != 3 || l.Place(2) != 0 {
		t.Errorf("%v %q %v", b, l.Text(), err)
	}
	if b, l, err := replay.Text(""); err != nil || !sameBook(b, book.Book{}) || l == nil || l.Len() != 0 || l.Next() != 1 {
		t.Errorf("%v %q %v", b, l.Text(), err)
	}
	if b, l, err := replay.Text("%"); err != nil || !sameBook(b, book.Book{Tail: "%"}) || l == nil || l.Len() != 0 || l.Next() != 1 {
		t.Errorf("%v %q %v", b, l.Text(), err)
	}
}

// P14.1: a book whose base text is wrong has no list, whatever its batches are; the error is Parse's.
func TestWrongBase(t *testing.T) {
	for _, c := range []struct {
		base string
		at   int // -1: a bare error
		err  api.Errno
	}{
		{"x", 0, api.ErrForm}, {"A: 1", 0, api.ErrForm}, {"A: 1\nodd\n", 1, api.ErrForm}, {"# c\n\n x\n", 2, api.ErrForm}, {"A: 1\n%am", 1, api.ErrForm},
		{"A: 1\n\nB: " + x(1001) + "\n", 2, api.ErrValue}, {strings.Repeat("A: 1\n", 41), 40, api.ErrFull}, {many(401), 800, api.ErrFull},
		{"#" + x(60000) + "\n", -1, api.ErrRange}, {x(60001), -1, api.ErrRange}, {strings.Repeat("\n", 60001), -1, api.ErrRange},
	} {
		var want error = c.err
		if c.at >= 0 {
			want = &api.Fault{At: c.at, Err: c.err}
		}
		for _, batches := range [][][]api.Edit{nil, {batch(insert(0, "A", "1"))}, {batch(drop(1))}, {nil}} {
			b := book.Book{Gen: 3, Base: c.base, Batches: batches, Tail: "%"}
			if l, err := replay.Of(b); l != nil || !sameError(err, want) {
				t.Errorf("%.100q: %q %v", c.base, l.Text(), err)
			}
			for n := range len(batches) + 1 {
				if l, err := replay.Behind(b, n); l != nil || !sameError(err, want) {
					t.Errorf("%.100q, %d: %q %v", c.base, n, l.Text(), err)
				}
			}
			if given, err := replay.Given(b); len(given) > 0 || !sameError(err, want) {
				t.Errorf("%.100q: %v %v", c.base, given, err)
			}
			// How many batches there are is asked first.
			for _, n := range []int{math.MinInt, -1, len(batches) + 1, math.MaxInt} {
				if l, err := replay.Behind(b, n); l != nil || err != api.ErrRange {
					t.Errorf("%.100q, %d: %q %v", c.base, n, l.Text(), err)
				}
			}
			holdBook(t, b)
		}
		holdText(t, c.base)
	}
}

// P14.1: a book is refused at its first batch that is, and has no list from there on, but has one behind those ahead of it.
func TestRefused(t *testing.T) {
	good := batch(replace(1, "A", "2"))
	for _, c := range []struct {
		base    string
		batches [][]api.Edit
		at      int
	}{
		{"", [][]api.Edit{batch(drop(1))}, 0},
		{"A: 1\n", [][]api.Edit{batch(drop(0))}, 0},
		{"A: 1\n", [][]api.Edit{batch(drop(2))}, 0},
		{"A: 1\n", [][]api.Edit{batch(drop(1), drop(1))}, 0},
		{"A: 1\n", [][]api.Edit{batch(drop(1)), batch(drop(1))}, 1},
		{"A: 1\n", [][]api.Edit{batch(drop(1)), good}, 1},
		{"A: 1\n", [][]api.Edit{batch(drop(1)), batch(insert(1, "A", ""))}, 1},
		{"A: 1\n", [][]api.Edit{good, good, batch(replace(0, "A", ""))}, 2},
		{"A: 1\n", [][]api.Edit{good, batch(insert(-1, "A", ""))}, 1},
		{"A: 1\n", [][]api.Edit{good, batch(insert(math.MaxInt, "A", "")), good}, 1},
		{"A: 1\n", [][]api.Edit{good, good, good, batch(drop(math.MinInt)), good}, 3},
		{"A: 1\n", [][]api.Edit{good, batch(insert(0, "B", ""), insert(2, "C", ""), drop(4)), batch(drop(7))}, 1},
		{"A: 1\n", [][]api.Edit{batch(insert(0, "B", "")), batch(drop(2)), batch(drop(3)), batch(drop(2))}, 2},
		// Of a batch that is refused nothing was done: its number isn't given.
		{"A: 1\n", [][]api.Edit{batch(insert(0, "B", ""), drop(9)), batch(drop(2))}, 0},
		{many(400), [][]api.Edit{batch(insert(0, "A", ""))}, 0},
		{many(400), [][]api.Edit{batch(drop(1), insert(0, "A", "")), batch(drop(2)), batch(insert(400, "A", "")), batch(insert(0, "A", "")), good}, 3},
		{many(399), [][]api.Edit{batch(insert(0, "A", "")), batch(drop(400), insert(0, "B", "")), batch(drop(1), insert(0, "A", ""), insert(0, "A", ""))}, 2},
	} {
		b := book.Book{Base: c.base, Batches: c.batches}
		want := &api.Fault{At: c.at, Err: api.ErrCorrupt}
		if l, err := replay.Of(b); l != nil || !sameError(err, want) {
			t.Errorf("%.100q, %v: %q %v", c.base, c.batches, l.Text(), err)
		}
		if given, err := replay.Given(b); len(given) > 0 || !sameError(err, want) {
			t.Errorf("%.100q, %v: %v %v", c.base, c.batches, given, err)
		}
		for n := range len(c.batches) + 1 {
			if l, err := replay.Behind(b, n); (n <= c.at) != (err == nil) || (l == nil) != (err != nil) {
				t.Errorf("%.100q, %v, %d: %q %v", c.base, c.batches, n, l.Text(), err)
			}
		}
		for id := range 10 {
			if replay.Base(b, id) {
				t.Errorf("%.100q, %v: Base %d", c.base, c.batches, id)
			}
		}
		holdBook(t, b)
		for _, tail := range []string{"", "%amend 10 6662df79\n"} {
			text := appended(t, c.base, c.batches...) + tail
			if b, l, err := replay.Text(text); l != nil || !sameBook(b, book.Book{}) || !sameError(err, want) {
				t.Errorf("%.100q: %v %q %v", text, b, l.Text(), err)
			}
			holdText(t, text)
		}
	}
}

// P14.1: a book that no file has may have batches that aren't good: these are refused, too.
func TestBatchesThatAreNotGood(t *testing.T) {
	good := insert(0, "A", "1")
	for _, wrong := range [][]api.Edit{
		nil, {}, {{}}, {good, {}}, {{Kind: 4, ID: 1}}, {{Kind: -1, ID: 1, Fields: fields("A", "1")}}, {{Kind: math.MinInt}}, {{Kind: math.MaxInt}},
		{insert(0)}, {replace(1)}, {good, replace(1)}, {{Kind: api.Delete, ID: 1, Fields: fields("A", "1")}},
		{insert(0, "", "")}, {insert(0, "A:", "")}, {replace(1, "A", x(1001))}, {insert(0, x(33), "")}, {good, insert(0, "#", "")},
		{{Kind: api.Insert, Fields: slices.Repeat(fields("A", ""), 41)}}, slices.Repeat(batch(good), 41), slices.Repeat(batch(api.Edit{}), 1000),
	} {
		for at := range 3 {
			batches := slices.Repeat([][]api.Edit{batch(good)}, 4)
			batches[at] = wrong
			b := book.Book{Base: "A: 1\n", Batches: batches}
			if l, err := replay.Of(b); l != nil || !sameError(err, &api.Fault{At: at, Err: api.ErrCorrupt}) {
				t.Errorf("%.100v: %q %v", wrong, l.Text(), err)
			}
			if l, err := replay.Behind(b, at); err != nil || l.Len() != 1+at {
				t.Errorf("%.100v: %q %v", wrong, l.Text(), err)
			}
			holdBook(t, b)
		}
	}
	// 40 edits are a batch, with 40 fields each.
	most := slices.Repeat(batch(api.Edit{Kind: api.Insert, Fields: slices.Repeat(fields(x(32), x(1000)), 40)}), 40)
	b := book.Book{Base: many(360), Batches: [][]api.Edit{most}}
	want, _, wantErr := plainPlay(b, 1)
	l, err := replay.Of(b)
	holdList(t, "Of", l, err, want, wantErr)
	if err != nil || l.Len() != 400 || !replay.Base(b, 360) || replay.Base(b, 361) {
		t.Error("40 edits of 40 fields", err)
	}
}

// P14.1: of a book base text and batches alone are asked.
func TestOnlyBaseAndBatches(t *testing.T) {
	batches := [][]api.Edit{batch(insert(1, "B", "")), batch(drop(1))}
	want, _ := replay.Of(book.Book{Base: "A: 1\n\nC: 1\n", Batches: batches})
	for _, b := range []book.Book{
		{Gen: -1}, {Gen: math.MaxInt}, {Gen: 7, Tail: "%am"}, {Tail: "A: 1\n"}, {Tail: x(130000)}, {Ends: []int{5}}, {Ends: []int{-1, math.MinInt, math.MaxInt, 0}}, {Ends: []int{43, 80}},
	} {
		b.Base, b.Batches = "A: 1\n\nC: 1\n", batches
		l, err := replay.Of(b)
		if err != nil {
			t.Error(err)
		}
		holdSame(t, "Of", l, want)
		if given, err := replay.Given(b); err != nil || !sameGiven(given, [][]int{{3}, nil}) {
			t.Error(given, err)
		}
		if replay.Base(b, 1) || !replay.Base(b, 2) || replay.Base(b, 3) {
			t.Error("Base")
		}
		holdBook(t, b)
	}
	// A header in the base text is a remark there.
	if l, err := replay.Of(book.Book{Gen: 3, Base: "#%gen 4\n\nA: 1\n"}); err != nil || l.Text() != "#%gen 4\n\nA: 1\n" {
		t.Error(l.Text(), err)
	}
	if !holdBook(t, book.Book{}) {
		t.Error("the zero book")
	}
}

// P14.1: Behind takes each number of batches that there are, and no other.
func TestBehind(t *testing.T) {
	b := book.Book{Base: "A: 1\n", Batches: [][]api.Edit{batch(insert(1, "B", "2")), batch(drop(1), insert(0, "C", "3")), batch(replace(2, "D", "4")), batch(drop(9)), batch(drop(3))}}
	texts := []string{"A: 1\n", "A: 1\n\nB: 2\n", "C: 3\n\nB: 2\n", "C: 3\n\nD: 4\n"}
	for n, want := range texts {
		if l, err := replay.Behind(b, n); err != nil || l.Text() != want {
			t.Errorf("%d: %q %v", n, l.Text(), err)
		}
	}
	for _, n := range []int{4, 5} {
		if l, err := replay.Behind(b, n); l != nil || !sameError(err, &api.Fault{At: 3, Err: api.ErrCorrupt}) {
			t.Errorf("%d: %q %v", n, l.Text(), err)
		}
	}
	for _, n := range []int{6, 7, -1, -2, math.MaxInt, math.MinInt, 1 << 32, -1 << 32, 1<<32 + 1} {
		if l, err := replay.Behind(b, n); l != nil || err != api.ErrRange {
			t.Errorf("%d: %q %v", n, l.Text(), err)
		}
	}
	// Spare room behind the batches isn't asked.
	room := book.Book{Base: b.Base, Batches: b.Batches[:2]}
	if l, err := replay.Behind(room, 3); l != nil || err != api.ErrRange {
		t.Errorf("%q %v", l.Text(), err)
	}
	holdBook(t, room)
}

// P14.1: Text answers Read's error wherever it is, ahead of a batch that is refused.
func TestTextRefused(t *testing.T) {
	odd := "%amend 3 eff85f7f\n a\n%end 3\n" // a record whose body is no good batch's text
	refused := appended(t, "A: 1\n", batch(drop(2)))
	good := appended(t, "A: 1\n", batch(drop(1)))
	for _, c := range []struct {
		text string
		at   int // -1: a bare error
		err  api.Errno
	}{
		{refused, 0, api.ErrCorrupt},
		{refused + "%", 0, api.ErrCorrupt},
		{good + refused[len("A: 1\n"):], 1, api.ErrCorrupt},
		{refused + odd, 1, api.ErrCorrupt},
		{refused + refused[len("A: 1\n"):] + "x", 2, api.ErrCorrupt},
		{refused + "\n", 1, api.ErrCorrupt},
		{odd + refused[len("A: 1\n"):], 0, api.ErrCorrupt},
		{good + odd, 1, api.ErrCorrupt},
		{"%x\n", 0, api.ErrCorrupt},
		{"odd\n" + refused, 0, api.ErrForm},
		{"A: 1\nodd\n", 1, api.ErrForm},
		{"#%gen 3\n\nA: 1\nB", 1, api.ErrForm},
		{"A: " + x(1001) + "\n" + odd, 0, api.ErrValue},
		{many(401), 800, api.ErrFull},
		{"#" + x(59999) + "\n" + refused, -1, api.ErrRange},
		{x(120001), -1, api.ErrRange},
		{refused + "%amend 50000 00000000\n " + x(120000), -1, api.ErrRange},
	} {
		var want error = c.err
		if c.at >= 0 {
			want = &api.Fault{At: c.at, Err: c.err}
		}
		if b, l, err := replay.Text(c.text); l != nil || !sameBook(b, book.Book{}) || !sameError(err, want) {
			t.Errorf("%.100q: %.100v %q %v, not %v at %d", c.text, b, l.Text(), err, c.err, c.at)
		}
		holdText(t, c.text)
	}
}

// P14.1: a file as long as it may be, of a list as long as it may be: each batch deletes a stanza, and inserts another one.
func TestLongFile(t *testing.T) {
	text, count := many(400), 0
	for {
		record := appended(t, "", batch(drop(count+1), insert(0, "A", "")))
		if len(text)+len(record) > 120000 {
			break
		}
		text += record
		count++
	}
	b, l, err := holdText(t, text)
	if err != nil || len(b.Batches) != count || l.Len() != 400 || l.Next() != 401+count || l.Place(400+count) != 0 {
		t.Error(count, err)
	}
	for _, n := range []int{0, 1, 399, 400, 401, count} {
		want, _, wantErr := plainPlay(b, n)
		ln, err := replay.Behind(b, n)
		holdList(t, "Behind", ln, err, want, wantErr)
	}
	given, err := replay.Given(b)
	if err != nil || len(given) != count || !slices.Equal(given[count-1], []int{400 + count}) {
		t.Error(err)
	}
	// All of the base text went: the last one of it is that of a book of fewer batches.
	b.Batches = b.Batches[:399]
	if !replay.Base(b, 400) || replay.Base(b, 399) || replay.Base(b, 401) {
		t.Error("Base behind 399 batches")
	}
	b.Batches = b.Batches[:400]
	if replay.Base(b, 400) {
		t.Error("Base behind 400 batches")
	}
}

// P14.1: a list's text may be longer than a base text may.
func TestLongList(t *testing.T) {
	long := batch(api.Edit{Kind: api.Insert, Fields: slices.Repeat(fields("A", x(1000)), 40)})
	b, l, err := holdText(t, appended(t, "#"+x(20000)+"\n", long, long))
	if err != nil || len(b.Batches) != 2 || len(l.Text()) <= 100000 {
		t.Error(len(l.Text()), err)
	}
}

// somePieces are batches of which some are refused by some lists: each kind, of stanzas of the base text and of others.
func somePieces() [][]api.Edit {
	return [][]api.Edit{
		batch(drop(1)), batch(drop(2)), batch(drop(3)), batch(replace(1, "C", "3")), batch(replace(2, "A", "1")),
		batch(insert(0, "D", "4")), batch(insert(1, "E", "5")), batch(insert(2, "F", ""), drop(2)), batch(insert(0, "G", ""), insert(3, "H", "")), nil,
	}
}

// eachBook hands over all books of some base texts with up to n of some batches.
func eachBook(bases []string, pieces [][]api.Edit, n int, hand func(book.Book)) {
	var grow func(b book.Book, n int)
	grow = func(b book.Book, n int) {
		hand(b)
		for _, piece := range pieces[:len(pieces)*min(n, 1)] {
			longer := b
			longer.Batches = append(slices.Clone(b.Batches), piece)
			grow(longer, n-1)
		}
	}
	for _, base := range bases {
		grow(book.Book{Base: base}, n)
	}
}

// P14.1: all calls with all books of up to three of some batches, on some base texts.
func TestAllBooks(t *testing.T) {
	bases := []string{"", "A: 1\n", "# c\n\nA:1\n\nB: 2\n", "A: 1\n\nA: 1\n\n\n# in\nA:1\n\n# c\n", "A: 1\nodd\n"}
	count := map[bool]int{}
	eachBook(bases, somePieces(), 3, func(b book.Book) {
		count[holdBook(t, b)]++
	})
	if count[true] < 500 || count[false] < 500 {
		t.Error(count)
	}
}

// P14.2: of a file to which a batch is appended that its list takes, the list is that on which it was done; one that it refuses is told, as the last record.
func TestAppended(t *testing.T) {
	bases := []string{"", "#%gen 3\n\n", "#%gen 12\n\n# c\n\nA:1\n\nB: 2\n", "A: 1\n\nA: 1\n\n\n# in\nA:1\n\n# c\n"}
	pieces := somePieces()[:9]
	count := map[bool]int{}
	eachBook(bases, pieces, 2, func(b book.Book) {
		text := appended(t, b.Base, b.Batches...)
		for _, tail := range []string{"", "%", "%amend 10 6662df79\n delete 1\n%end 10"} {
			before, l, err := holdText(t, text+tail)
			if err != nil || before.Tail != tail {
				continue // a list that was refused takes nothing
			}
			for _, piece := range pieces {
				count[holdAppended(t, before, l, text, tail, piece)]++
			}
		}
	})
	if count[true] < 500 || count[false] < 500 {
		t.Error(count)
	}
}

// holdAppended holds what Text says of a file, of a book and a list, to which a batch is appended, and tells whether the list takes it.
func holdAppended(t *testing.T, before book.Book, l *list.List, whole, tail string, piece []api.Edit) bool {
	t.Helper()
	done, ids, doErr := edit.Do(l, piece...)
	next := appended(t, whole+tail, piece)
	b, got, err := holdText(t, next)
	if doErr != nil {
		if got != nil || !sameError(err, &api.Fault{At: len(before.Batches), Err: api.ErrCorrupt}) {
			t.Errorf("%q: %q %v", next, got.Text(), err)
		}
		return false
	}
	if err != nil || len(b.Batches) != len(before.Batches)+1 || b.Tail != "" {
		t.Errorf("%q: %v %v", next, b, err)
	}
	holdSame(t, "with the batch", got, done)
	if given, err := replay.Given(b); err != nil || !slices.Equal(given[len(given)-1], ids) {
		t.Errorf("%q: given %v, not %v", next, given, ids)
	}
	ahead, err := replay.Behind(b, len(before.Batches))
	if err != nil {
		t.Error(err)
	}
	holdSame(t, "ahead of the batch", ahead, l)
	return true
}

// P14.2: with each tail in the record's place the list is as it was, whether it takes the batch or not.
func TestTails(t *testing.T) {
	for _, text := range []string{"", "A: 1\n", "#%gen 3\n\nA:1\n\n# c\n", appended(t, three, batch(drop(2)), batch(insert(0, "B", "2\n3"), replace(1, "C", "")))} {
		before, l, err := holdText(t, text)
		if err != nil {
			t.Fatal(err)
		}
		for _, piece := range append(somePieces()[:9], batch(insert(0, "%amend 3", "x\n%end 3\n\n.")), batch(drop(99)), slices.Repeat(batch(insert(0, "A", "")), 40)) {
			next := appended(t, text, piece)
			for n := len(text); n < len(next); n++ {
				b, got, err := replay.Text(next[:n])
				want := before
				want.Tail = next[len(text):n]
				if err != nil || !sameBook(b, want) {
					t.Fatalf("%q: %v %v", next[:n], b, err)
				}
				holdSame(t, "with a tail", got, l)
				holdSame(t, "of the book with a tail", first(replay.Of(b)), l)
			}
			holdAppended(t, before, l, text, "", piece)
		}
	}
}

// first is the list that was answered.
func first(l *list.List, _ error) *list.List {
	return l
}

// randomFields are a stanza's fields.
func randomFields(random *rand.Rand) []api.Field {
	var all []api.Field
	for range 1 + random.IntN(3) {
		all = append(all, fields(string(rune('A'+random.IntN(4))), []string{"", "1", "x\n\n.y", "%am", "#", "\xff"}[random.IntN(6)])...)
	}
	return all
}

// randomBatch is a good batch, of which most edits name a number below next.
func randomBatch(random *rand.Rand, next int) []api.Edit {
	var all []api.Edit
	for range 1 + random.IntN(4) {
		x := api.Edit{Kind: 1 + random.IntN(3), ID: random.IntN(next + 1)}
		if x.Kind != api.Delete {
			x.Fields = randomFields(random)
		}
		all = append(all, x)
	}
	return all
}

// P14.1, P14.2: files that grow by batches at random; of those refused the file goes on as it was.
func TestRandom(t *testing.T) {
	random := rand.New(rand.NewPCG(14, 1))
	count := map[bool]int{}
	for range 60 {
		text := []string{"", "A: 1\n", "#%gen 7\n\n", "", "#%gen 2147483648\n\n"}[random.IntN(5)]
		for range random.IntN(8) {
			text += []string{"\n", "# c\n", "A: 1\n\n", "B:2\n\n", "A: x\n y\n# in\nB:\n"}[random.IntN(5)]
		}
		b, l, err := holdText(t, text)
		if err != nil {
			t.Fatal(text, err)
		}
		for range 20 {
			tail := []string{"", "", "%", "%amend 4"}[random.IntN(4)]
			piece := randomBatch(random, l.Next())
			taken := holdAppended(t, b, l, text, tail, piece)
			count[taken]++
			if taken {
				text = appended(t, text+tail, piece)
				b, l, _ = replay.Text(text)
			}
		}
		holdBook(t, b)
	}
	if count[true] < 200 || count[false] < 200 {
		t.Error(count)
	}
}

// spoil changes a list's elements, and what is in its spare room.
func spoil[T any](all []T) {
	var zero T
	clear(append(all, zero))
	clear(all[:cap(all)])
}

// spoilBook spoils all lists of a book.
func spoilBook(b book.Book) {
	for _, piece := range b.Batches {
		for _, x := range piece {
			spoil(x.Fields)
		}
		spoil(piece)
	}
	spoil(b.Batches)
	spoil(b.Ends)
}

// spoilList changes all that can be of a list.
func spoilList(l *list.List) {
	for _, s := range l.Stanzas() {
		l.Replace(s.ID, fields("Z", "spoilt")...)
	}
	for l.Len() > 1 {
		l.Delete(l.Stanzas()[0].ID)
	}
	l.Insert(0, fields("Y", "spoilt")...)
}

// spared is a book with something in the spare room of each of its lists.
func spared() book.Book {
	room := func(x api.Edit) api.Edit {
		x.Fields = append(x.Fields, fields("Z", "behind")...)[:len(x.Fields)]
		return x
	}
	batches := [][]api.Edit{
		batch(room(insert(1, "B", "2")), room(replace(2, "C", "3")), drop(77))[:2],
		batch(drop(2), room(insert(3, "D", "4", "E", "5")), drop(78))[:2],
		batch(drop(79)),
	}
	return book.Book{Gen: 3, Base: "# c\n\nA: 1\n\nA:2\n", Batches: batches[:2], Ends: []int{1, 2, 80}[:2], Tail: "%am"}
}

// sparedText is the text of the list of that book.
const sparedText = "# c\n\nA: 1\n\nB: 2\n\nD: 4\nE: 5\n\n"

// P14.3: what is handed in stays as it was, with its spare room, whatever becomes of the answers.
func TestArgumentsStay(t *testing.T) {
	b := spared()
	for range 2 {
		l, err := replay.Of(b)
		if err != nil || l.Text() != sparedText {
			t.Error(l.Text(), err)
		}
		spoilList(l)
		for n := range 3 {
			l, err := replay.Behind(b, n)
			if err != nil {
				t.Error(err)
			}
			spoilList(l)
		}
		replay.Behind(b, 3)
		given, err := replay.Given(b)
		if err != nil || !sameGiven(given, [][]int{{3}, {4}}) {
			t.Error(given, err)
		}
		for _, ids := range given {
			spoil(ids)
		}
		spoil(given)
		if !replay.Base(b, 1) || replay.Base(b, 2) || replay.Base(b, 3) {
			t.Error("Base")
		}
	}
	if !sameBook(b, spared()) {
		t.Error(b)
	}
	whole := b
	whole.Batches, whole.Ends = b.Batches[:3], b.Ends[:3]
	if whole.Ends[2] != 80 || !edit.Same(whole.Batches[2], batch(drop(79))) {
		t.Error("the spare room of the book's lists", whole)
	}
	for at, piece := range b.Batches {
		if last := piece[:3][2]; last.ID != 77+at {
			t.Error("the spare room of batch", at, last)
		}
		for _, x := range piece {
			if n := len(x.Fields); n > 0 && x.Fields[:n+1][n].Value != "behind" {
				t.Error("the spare room of an edit", x)
			}
		}
	}
}

// P14.3: nothing of what was handed in is kept: whoever changes it afterwards changes no answer.
func TestNothingIsKept(t *testing.T) {
	b := spared()
	l, _ := replay.Of(b)
	ahead, _ := replay.Behind(b, 1)
	given, _ := replay.Given(b)
	spoilBook(b)
	if l.Text() != sparedText || l.Next() != 5 {
		t.Errorf("%q", l.Text())
	}
	if fields, ok := l.Get(4); !ok || len(fields) != 2 || fields[0].Key != "D" {
		t.Error(fields)
	}
	if ahead.Text() != "# c\n\nA: 1\n\nB: 2\n\nC: 3\n" {
		t.Errorf("%q", ahead.Text())
	}
	if !sameGiven(given, [][]int{{3}, {4}}) {
		t.Error(given)
	}
}

// P14.3: answers are new: whoever changes one changes no other, and no list of it another one.
func TestAnswersAreNew(t *testing.T) {
	text := appended(t, "A: 1\n\nB: 2\n", batch(insert(1, "C", "3"), insert(3, "D", "4")), batch(replace(2, "E", "5")), batch(insert(0, "F", "6"))) + "%"
	b, l, err := replay.Text(text)
	if err != nil {
		t.Fatal(err)
	}
	again, other, _ := replay.Text(text)
	same, _ := replay.Of(b)
	short, _ := replay.Behind(b, 3)
	want := copyBook(b)
	spoilList(other)
	spoilList(same)
	if !sameBook(b, want) || !sameBook(again, want) || l.Text() != short.Text() {
		t.Error(b, again, l.Text(), short.Text())
	}
	spoilBook(again)
	if !sameBook(b, want) {
		t.Error(b)
	}
	shown := l.Text()
	spoilBook(b)
	if l.Text() != shown || shown != "F: 6\n\nA: 1\n\nC: 3\n\nD: 4\n\nE: 5\n" {
		t.Error(shown, l.Text())
	}
	wantGiven := [][]int{{3, 4}, nil, {5}}
	for at := range wantGiven {
		given, _ := replay.Given(want)
		spoil(given[at])
		for other, ids := range given {
			if other != at && !slices.Equal(ids, wantGiven[other]) {
				t.Error(at, given)
			}
		}
	}
	if given, _ := replay.Given(want); !sameGiven(given, wantGiven) {
		t.Error(given)
	}
}
