package book_test

import (
	"errors"
	"math"
	"math/rand/v2"
	"slices"
	"strings"
	"testing"

	"stanzakeep/api"
	"stanzakeep/book"
	"stanzakeep/edit"
)

// Records written out, their sums worked out elsewhere: of three batches, and of bodies that are no good batch's text.
const (
	recordDrop   = "%amend 10 6662df79\n delete 1\n%end 10\n"
	recordInsert = "%amend 17 835b6407\n insert 1\n  B: 2\n%end 17\n"
	recordDots   = "%amend 30 b543cca0\n replace 7\n  A: x\n   .\n   ..y\n%end 30\n"
	recordLooks  = "%amend 32 9cc73439\n insert 0\n  %amend 3: x\n   %end\n%end 32\n"
	recordTwice  = "%amend 20 85b23e4f\n delete 1\n delete 1\n%end 20\n"
	recordNone   = "%amend 3 eff85f7f\n a\n%end 3\n"
	recordZero   = "%amend 11 8308798b\n delete 01\n%end 11\n"
	recordClose  = "%amend 16 35512e7c\n insert 0\n  A:1\n%end 16\n"
)

var (
	batchDrop   = []api.Edit{drop(1)}
	batchInsert = []api.Edit{insert(1, "B", "2")}
	batchDots   = []api.Edit{replace(7, "A", "x\n\n.y")}
	batchLooks  = []api.Edit{insert(0, "%amend 3", "x\n%end")}
	batchTwice  = []api.Edit{drop(1), drop(1)}
)

// P13.1: books written out: the chapter's example, and what each part of a file may be.
func TestReadWrittenOut(t *testing.T) {
	for _, c := range []struct {
		text string
		want book.Book
	}{
		{"", book.Book{}},
		{"A: 1\n%am", book.Book{Base: "A: 1\n", Tail: "%am"}},
		{"A: 1\n", book.Book{Base: "A: 1\n"}},
		{"%", book.Book{Tail: "%"}},
		{"%amend 50000 0", book.Book{Tail: "%amend 50000 0"}},
		{"\n \n# c\n\t\n%a", book.Book{Base: "\n \n# c\n\t\n", Tail: "%a"}},
		// The header.
		{"#%gen 3\n\n", book.Book{Gen: 3}},
		{"#%gen 2147483648\n\nA: 1\n", book.Book{Gen: 1 << 31, Base: "A: 1\n"}},
		{"#%gen 3\n\n%amend 1", book.Book{Gen: 3, Tail: "%amend 1"}},
		{"#%gen 3\n\n" + recordDrop, book.Book{Gen: 3, Batches: [][]api.Edit{batchDrop}, Ends: []int{46}}},
		{"#%gen 3\n\n#%gen 4\n\nA: 1\n", book.Book{Gen: 3, Base: "#%gen 4\n\nA: 1\n"}},
		{"#%gen 03\n\nA: 1\n", book.Book{Base: "#%gen 03\n\nA: 1\n"}},
		{"#%gen 2147483649\n\n%am", book.Book{Base: "#%gen 2147483649\n\n", Tail: "%am"}},
		{"#%gen 3\n%am", book.Book{Base: "#%gen 3\n", Tail: "%am"}},
		{"A: 1\n\n#%gen 3\n\n%am", book.Book{Base: "A: 1\n\n#%gen 3\n\n", Tail: "%am"}},
		// The base text ends where a line begins records, though it looks like one no sooner.
		{"%: 1\n%am: 2\n%", book.Book{Base: "%: 1\n%am: 2\n", Tail: "%"}},
		{"%amend 10 6662df79: 1\n delete 1\n%", book.Book{Base: "%amend 10 6662df79: 1\n delete 1\n", Tail: "%"}},
		{"A: 1\n %am\n\t%end\n#%am\n%am", book.Book{Base: "A: 1\n %am\n\t%end\n#%am\n", Tail: "%am"}},
		{"%" + x(31) + ": 1\n%", book.Book{Base: "%" + x(31) + ": 1\n", Tail: "%"}},
		{"A: %am\n" + recordDrop, book.Book{Base: "A: %am\n", Batches: [][]api.Edit{batchDrop}, Ends: []int{44}}},
		// Records, be they such as a list takes or not.
		{recordDrop, book.Book{Batches: [][]api.Edit{batchDrop}, Ends: []int{37}}},
		{recordInsert + recordDrop, book.Book{Batches: [][]api.Edit{batchInsert, batchDrop}, Ends: []int{44, 81}}},
		{"A: 1\n" + recordLooks + recordDots, book.Book{Base: "A: 1\n", Batches: [][]api.Edit{batchLooks, batchDots}, Ends: []int{64, 121}}},
		{"# c\n" + recordTwice + recordTwice + recordTwice, book.Book{Base: "# c\n", Batches: [][]api.Edit{batchTwice, batchTwice, batchTwice}, Ends: []int{51, 98, 145}}},
		{"#%gen 12\n\nA: 1\n" + recordInsert + recordDrop + "%amend 3 0000", book.Book{Gen: 12, Base: "A: 1\n", Batches: [][]api.Edit{batchInsert, batchDrop}, Ends: []int{59, 96}, Tail: "%amend 3 0000"}},
		// A tail is any part, also one of a body that no batch has, with another sum.
		{"A: 1\n%amend 3 00000000\n a\n%end 3", book.Book{Base: "A: 1\n", Tail: "%amend 3 00000000\n a\n%end 3"}},
		{recordDrop + recordDrop[:36], book.Book{Batches: [][]api.Edit{batchDrop}, Ends: []int{37}, Tail: recordDrop[:36]}},
		{recordDrop + "%amend 9 00000000\n a: b\n c", book.Book{Batches: [][]api.Edit{batchDrop}, Ends: []int{37}, Tail: "%amend 9 00000000\n a: b\n c"}},
	} {
		b, err := book.Read(c.text)
		if err != nil || !sameBook(b, c.want) {
			t.Errorf("%q: %v %v, not %v", c.text, b, err, c.want)
		}
		if b.Size() != len(c.text) || b.Whole() != len(c.text)-len(c.want.Tail) {
			t.Errorf("%q: of %d bytes, %d of them whole", c.text, b.Size(), b.Whole())
		}
		holdText(t, c.text)
	}
}

// refused holds that Read, and Appended of good batches and of others, refuse a text with this error; at is -1 for a bare one.
func refused(t *testing.T, text string, at int, want error) {
	t.Helper()
	if at >= 0 {
		want = &api.Fault{At: at, Err: want}
	}
	b, err := book.Read(text)
	if !sameError(err, want) || !sameBook(b, book.Book{}) {
		t.Errorf("%.200q (%d bytes): %.200v %v, not %v at %d", text, len(text), b, err, want, at)
	}
	for _, batch := range [][]api.Edit{batchDrop, {}, {{}}, sized(50001)} {
		if next, err := book.Appended(text, batch...); next != "" || !sameError(err, want) {
			t.Errorf("%.200q (%d bytes) and %.100v: %.200q %v, not %v at %d", text, len(text), batch, next, err, want, at)
		}
	}
	holdText(t, text)
}

// P13.1: a text whose base text can't be parsed is refused with the error and the line that layer 5 tells of the base text.
func TestWrongBase(t *testing.T) {
	for _, c := range []struct {
		text string
		at   int
		err  api.Errno
	}{
		{"A\n", 0, api.ErrForm}, {"A: 1", 0, api.ErrForm}, {"A: 1\nB: 2", 1, api.ErrForm}, {"# c", 0, api.ErrForm}, {" ", 0, api.ErrForm}, {"#%gen 3", 0, api.ErrForm}, {"A: 1%am", 0, api.ErrForm}, {"A: 1\n%am: 2", 1, api.ErrForm},
		{" x\n", 0, api.ErrForm}, {"A: 1\n# c\n x\n", 2, api.ErrForm}, {"A: 1\n\n\nB\n\nC\n", 3, api.ErrForm}, {": x\n", 0, api.ErrForm},
		{"A: " + x(1001) + "\n", 0, api.ErrValue}, {"\nA: " + x(900) + "\n " + x(100) + "\n", 1, api.ErrValue},
		{strings.Repeat("A: 1\n", 41), 40, api.ErrFull}, {strings.Repeat("A: 1\n\n", 401), 800, api.ErrFull},
		// Lines are counted from behind the header on.
		{"#%gen 3\n\nA\n", 0, api.ErrForm}, {"#%gen 3\n\nA: 1\n\nB", 2, api.ErrForm}, {"#%gen 03\n\nA\n", 2, api.ErrForm}, {"#%gen 3\n\n#%gen 4\n\nA\n", 2, api.ErrForm},
		// It is told ahead of what is wrong behind it.
		{"A\n%am", 0, api.ErrForm}, {"A\n" + recordDrop, 0, api.ErrForm}, {"A: 1\nB\n%x\n", 1, api.ErrForm}, {"A: 1\nB\n" + recordDrop + recordNone, 1, api.ErrForm}, {"#%gen 3\n\n x\n%x\n", 0, api.ErrForm}, {strings.Repeat("A: 1\n", 41) + "%x\nA\n", 40, api.ErrFull},
	} {
		refused(t, c.text, c.at, c.err)
	}
}

// P13.1: a text is refused at the first record that isn't as told, or whose body is no good batch's text.
func TestCorrupt(t *testing.T) {
	line := "%amend 2 00000000\n"
	for _, c := range []struct {
		text string
		at   int
	}{
		// No part, though a line begins records.
		{"%x\n", 0}, {"%x", 0}, {"%\n", 0}, {"%am\n", 0}, {"%%", 0}, {"A: 1\n%x\n", 0}, {"A: 1\n%end 10\n", 0}, {"%" + x(32) + ": 1\n", 0}, {"%amend 1 ", 0}, {"%amend 50001", 0}, {"%am" + recordDrop, 0}, {"%am\n" + recordDrop, 0}, {"%x\nA\n", 0}, {"A: 1\n%x\nA: 1\n", 0},
		{"#%gen 3\n\n%x\n", 0}, {"#%gen 3\n\nA: 1\n" + recordDrop + "%x\n", 1}, {line + line, 0}, {"A: 1\n" + recordDrop[:20] + recordDrop, 0},
		// Anything behind a record but another one and a part.
		{recordDrop + "\n", 1}, {recordDrop + " ", 1}, {recordDrop + "A: 1\n", 1}, {recordDrop + "# c\n", 1}, {recordDrop + "#%gen 3\n\n", 1}, {recordDrop + "x", 1}, {recordDrop + "%am\n", 1}, {recordDrop + "\n" + recordDrop, 1}, {recordDrop + recordDrop + "\x00", 2}, {recordDrop + "# c\n" + recordDrop, 1}, {recordDrop + recordDrop + "%: 1\n", 2}, {recordDrop + "%end 10\n", 1},
		// Another sum, or number, or a byte more or less.
		{"%amend 10 6662df78\n delete 1\n%end 10\n", 0}, {"%amend 10 6662DF79\n delete 1\n%end 10\n", 0}, {"%amend 10 6662df79\n delete 2\n%end 10\n", 0}, {"%amend 10 6662df79\n delete 1\n%end 11\n", 0}, {"%amend 11 6662df79\n delete 1\n%end 10\n", 0}, {"%amend 010 6662df79\n delete 1\n%end 10\n", 0}, {recordInsert + recordDrop + "%amend 10 6662df79\n delete 1\n%end 10\r\n", 2}, {recordDrop[:len(recordDrop)-1] + recordDrop, 0}, {recordInsert + recordDrop[1:] + recordInsert, 1},
		// Bodies that are no good batch's text, in records as told.
		{recordNone, 0}, {recordZero, 0}, {recordClose, 0}, {recordDrop + recordNone, 1}, {recordDrop + recordInsert + recordZero, 2}, {"#%gen 3\n\nA: 1\n" + recordClose, 0}, {recordDrop + recordClose + "%am", 1}, {plainRecord(" \n"), 0}, {plainRecord(strings.Repeat(" delete 1\n", 41)), 0}, {recordDrop + plainRecord(" insert 0\n"), 1}, {plainRecord(" insert 0\n  A: " + x(1001) + "\n"), 0},
		// The first one of several.
		{recordNone + "%x\n", 0}, {recordDrop + recordNone + recordZero + "\n", 1}, {recordZero + recordDrop + "x", 0},
	} {
		refused(t, c.text, c.at, api.ErrCorrupt)
	}
}

// P13.1: a text of 120000 bytes is read, one of a byte more isn't, whatever it is.
func TestReadRange(t *testing.T) {
	begun := remark(60000) + plainRecord(body(sized(50000)))
	last := sized(120000 - len(begun) - len("%amend 9999 00000000\n%end 9999\n"))
	whole := begun + plainRecord(body(last))
	if len(whole) != 120000 {
		t.Fatal(len(whole))
	}
	b, err := book.Read(whole)
	if err != nil || len(b.Batches) != 2 || !edit.Same(b.Batches[1], last) || b.Ends[1] != 120000 || b.Tail != "" {
		t.Error(err)
	}
	holdText(t, whole)
	tailed := begun + "%amend 50000 00000000\n " + x(120000-len(begun)-23)
	if b, ok := holdText(t, tailed); !ok || b.Size() != 120000 || b.Whole() != len(begun) {
		t.Error(b.Size(), b.Whole())
	}
	refused(t, tailed[:119999]+"\r\n", -1, api.ErrRange)
	for _, text := range []string{whole + "%", whole + "\n", tailed + "x", x(120001), strings.Repeat("#\n", 60001), "A\n" + whole, "%x\n" + whole, strings.Repeat("\x00", 1<<20), "#%gen 3\n\n" + remark(120000)} {
		refused(t, text, -1, api.ErrRange)
	}
	refused(t, "%"+x(119999), 0, api.ErrCorrupt)
	refused(t, strings.Repeat("%", 120000), 0, api.ErrCorrupt)
}

// P13.1: a base text of 60000 bytes is read, with a header ahead of it, too; one of a byte more isn't.
func TestBaseRange(t *testing.T) {
	for _, ahead := range []string{"", "#%gen 3\n\n", "#%gen 2147483648\n\n"} {
		for _, behind := range []string{"", "%am", recordDrop, recordDrop + recordInsert + "%"} {
			for _, base := range []string{remark(60000), strings.Repeat("#\n", 30000), strings.Repeat("\n", 60000)} {
				if b, ok := holdText(t, ahead+base+behind); !ok || b.Base != base {
					t.Errorf("%q and %q: %v", ahead, behind, ok)
				}
				refused(t, ahead+"\n"+base+behind, -1, api.ErrRange)
			}
		}
		// Of a base text that is too long, its length is told.
		refused(t, ahead+"A\n"+remark(60000)+"%x\n", -1, api.ErrRange)
	}
	// What isn't taken as a header is of the base text.
	refused(t, "#%gen 03\n\n"+remark(59991), -1, api.ErrRange)
	holdText(t, "#%gen 03\n\n"+remark(59990))
}

// P13.1: fresh files written out, and what is none.
func TestFresh(t *testing.T) {
	for _, c := range []struct {
		gen        int
		text, want string
	}{
		{0, "", ""}, {0, "A: 1\n", "A: 1\n"}, {1, "", "#%gen 1\n\n"}, {3, "# c\n\nA: 1\n", "#%gen 3\n\n# c\n\nA: 1\n"}, {12, "%: 1\n %am\n", "#%gen 12\n\n%: 1\n %am\n"}, {1 << 31, "A:1\n", "#%gen 2147483648\n\nA:1\n"}, {2, "#%gen 3\n\nA: 1\n", "#%gen 2\n\n#%gen 3\n\nA: 1\n"}, {0, "#%gen 03\n\n", "#%gen 03\n\n"},
		{0, remark(60000), remark(60000)}, {1 << 31, remark(60000), "#%gen 2147483648\n\n" + remark(60000)},
	} {
		fresh, err := book.Fresh(c.gen, c.text)
		if fresh != c.want || err != nil {
			t.Errorf("%d, %.100q: %.100q %v, not %.100q", c.gen, c.text, fresh, err, c.want)
		}
		holdFresh(t, c.gen, c.text)
		if b, err := book.Read(fresh); err != nil || !sameBook(b, book.Book{Gen: c.gen, Base: c.text}) {
			t.Errorf("%d, %.100q: read again %.100v %v", c.gen, c.text, b, err)
		}
	}
	for _, c := range []struct {
		gen  int
		text string
		at   int
		err  api.Errno
	}{
		{-1, "", -1, api.ErrRange}, {1<<31 + 1, "A: 1\n", -1, api.ErrRange}, {math.MinInt, "", -1, api.ErrRange}, {math.MaxInt, "", -1, api.ErrRange}, {1<<32 + 1, "", -1, api.ErrRange},
		{-1, "A\n", -1, api.ErrRange}, {1<<31 + 1, "%x", -1, api.ErrRange}, {-1, remark(60001), -1, api.ErrRange},
		{0, remark(60001), -1, api.ErrRange}, {3, remark(60001), -1, api.ErrRange}, {3, "A\n" + remark(60000), -1, api.ErrRange},
		{0, "A\n", 0, api.ErrForm}, {1, "x", 0, api.ErrForm}, {3, "A: 1\nB", 1, api.ErrForm}, {1 << 31, "\n\n x\n", 2, api.ErrForm}, {0, "A: " + x(1001) + "\n", 0, api.ErrValue}, {7, strings.Repeat("A: 1\n", 41), 40, api.ErrFull},
		// No records, and no tail.
		{0, "%", 0, api.ErrForm}, {3, "A: 1\n%am", 1, api.ErrForm}, {0, recordDrop, 0, api.ErrForm}, {3, "A: 1\n" + recordDrop, 1, api.ErrForm}, {0, "#%gen 3\n\n" + recordDrop, 2, api.ErrForm},
	} {
		var want error = c.err
		if c.at >= 0 {
			want = &api.Fault{At: c.at, Err: c.err}
		}
		if fresh, err := book.Fresh(c.gen, c.text); fresh != "" || !sameError(err, want) {
			t.Errorf("%d, %.100q: %.100q %v, not %v at %d", c.gen, c.text, fresh, err, c.err, c.at)
		}
		holdFresh(t, c.gen, c.text)
	}
}

// P13.1: of generation 0 nothing is put ahead of a text: one that begins with a header stays as it is, and is read as of that one's generation.
func TestFreshZeroWithHeader(t *testing.T) {
	fresh, err := book.Fresh(0, "#%gen 3\n\nA: 1\n")
	if fresh != "#%gen 3\n\nA: 1\n" || err != nil {
		t.Errorf("%q %v", fresh, err)
	}
	if b, ok := holdText(t, fresh); !ok || b.Gen != 3 || b.Base != "A: 1\n" {
		t.Error(b)
	}
}

// P13.1: what is appended, written out: behind what is whole, whatever the tail was.
func TestAppendedWrittenOut(t *testing.T) {
	for _, c := range []struct {
		text  string
		batch []api.Edit
		want  string
	}{
		{"", batchDrop, recordDrop},
		{"A: 1\n", batchInsert, "A: 1\n" + recordInsert},
		{"A: 1\n%am", batchDrop, "A: 1\n" + recordDrop},
		{"%", batchDots, recordDots},
		{"#%gen 3\n\n", batchLooks, "#%gen 3\n\n" + recordLooks},
		{"#%gen 3\n\n%amend 10 6662df79\n delete 1\n%end 10", batchTwice, "#%gen 3\n\n" + recordTwice},
		{"#%gen 12\n\n# c\n\nA:1\n" + recordInsert, batchDrop, "#%gen 12\n\n# c\n\nA:1\n" + recordInsert + recordDrop},
		{recordInsert + recordDrop + recordDots[:50], batchDots, recordInsert + recordDrop + recordDots},
		{recordInsert + "%amend 9 00000000\n a: b\n c", batchInsert, recordInsert + recordInsert},
	} {
		next, err := book.Appended(c.text, c.batch...)
		if next != c.want || err != nil {
			t.Errorf("%q and %v: %q %v, not %q", c.text, c.batch, next, err, c.want)
		}
		holdAppended(t, c.text, c.batch...)
	}
}

// P13.1: a batch that isn't good is refused as layer 9's Check refuses it, ahead of there being no room for it.
func TestAppendedWrongBatch(t *testing.T) {
	good := insert(0, "A", "1")
	full := remark(60000) + plainRecord(body(sized(50000)))
	full += plainRecord(body(sized(120000 - len(full) - len("%amend 9999 00000000\n%end 9999\n"))))
	huge := slices.Repeat([]api.Edit{insert(0, "A", x(1000), "B", x(1000))}, 39)
	for _, text := range []string{"", "A: 1\n%am", "#%gen 3\n\nA: 1\n" + recordInsert, full} {
		for _, c := range []struct {
			batch []api.Edit
			at    int
			err   api.Errno
		}{
			{nil, -1, api.ErrRange}, {[]api.Edit{}, -1, api.ErrRange}, {slices.Repeat([]api.Edit{good}, 41), -1, api.ErrRange}, {slices.Repeat([]api.Edit{{}}, 41), -1, api.ErrRange},
			{[]api.Edit{{}}, 0, api.ErrForm}, {[]api.Edit{good, {Kind: 4, ID: 1}}, 1, api.ErrForm}, {[]api.Edit{good, insert(1)}, 1, api.ErrForm}, {[]api.Edit{{Kind: api.Delete, ID: 1, Fields: fields("A", "1")}}, 0, api.ErrForm},
			{[]api.Edit{good, good, replace(1, "A", "1", "#", "2")}, 2, api.ErrKey}, {[]api.Edit{insert(1, "A", x(1001))}, 0, api.ErrValue}, {[]api.Edit{good, {Kind: api.Insert, Fields: slices.Repeat(fields("A", ""), 41)}}, 1, api.ErrFull},
			{append(slices.Clone(huge), api.Edit{}), 39, api.ErrForm}, {append(slices.Clone(huge), drop(1), drop(1)), -1, api.ErrRange},
		} {
			var want error = c.err
			if c.at >= 0 {
				want = &api.Fault{At: c.at, Err: c.err}
			}
			if next, err := book.Appended(text, c.batch...); next != "" || !sameError(err, want) {
				t.Errorf("%.100q and %.100v: %.100q %v, not %v at %d", text, c.batch, next, err, c.err, c.at)
			}
			holdAppended(t, text, c.batch...)
		}
	}
}

// P13.1: a batch whose text has 50000 bytes is appended, one of a byte more isn't, though it is good.
func TestAppendedLongBatch(t *testing.T) {
	for _, text := range []string{"", "#%gen 3\n\nA: 1\n%am", "A: 1\n" + recordInsert} {
		for n := 49995; n <= 50005; n++ {
			next, ok := holdAppended(t, text, sized(n)...)
			if ok != (n <= 50000) {
				t.Errorf("%q, %d bytes: %v", text, n, ok)
			}
			if _, err := book.Appended(text, sized(n)...); n > 50000 && err != api.ErrFull {
				t.Errorf("%q, %d bytes: %v", text, n, err)
			}
			if b, read := holdText(t, next); ok && (!read || !edit.Same(b.Batches[len(b.Batches)-1], sized(n))) {
				t.Errorf("%q, %d bytes: read %v", text, n, read)
			}
		}
		if _, err := book.Appended(text, slices.Repeat([]api.Edit{insert(0, "A", x(1000), "B", x(1000))}, 40)...); err != api.ErrFull {
			t.Error(err)
		}
	}
}

// P13.1: a file may come to have 120000 bytes, and no more; a tail, which goes, takes no room.
func TestAppendedRoom(t *testing.T) {
	for _, ahead := range []string{"", "#%gen 12\n\n"} {
		begun := ahead + remark(60000) + plainRecord(body(sized(50000)))
		for _, tail := range []string{"", "%", "%am", "%amend 50000 00000000\n " + x(9000), "%amend 50000 00000000\n " + x(120000-len(begun)-23)} {
			for free := 0; free <= 50; free++ {
				text := begun + plainRecord(body(sized(120000-len(begun)-free-len("%amend 9999 00000000\n%end 9999\n"))))
				if len(text) != 120000-free {
					t.Fatal(len(text), free)
				}
				whole, ok := holdAppended(t, begun+tail, sized(120000-len(begun)-free-len("%amend 9999 00000000\n%end 9999\n"))...)
				if !ok || whole != text {
					t.Errorf("%q, %.50q: %d bytes", ahead, tail, len(whole))
				}
				next, err := book.Appended(text, batchDrop...)
				if free >= len(recordDrop) && (err != nil || next != text+recordDrop) || free < len(recordDrop) && (err != api.ErrFull || next != "") {
					t.Errorf("%q, %d free: %d bytes %v", ahead, free, len(next), err)
				}
			}
			for over := 1; over <= 3; over++ {
				n := 120000 - len(begun) + over - len("%amend 9999 00000000\n%end 9999\n")
				if next, err := book.Appended(begun+tail, sized(n)...); next != "" || err != api.ErrFull {
					t.Errorf("%q, %.50q, %d over: %d bytes %v", ahead, tail, over, len(next), err)
				}
			}
		}
	}
}

// body is a good batch's text.
func body(batch []api.Edit) string {
	record, err := book.Appended("", batch...)
	if err != nil {
		panic(err)
	}
	_, rest, _ := strings.Cut(record, "\n")
	return rest[:strings.LastIndex(rest, "%end ")]
}

// P13.2: each beginning that has all of a file to which a record is appended is that file with a tail, and can be appended to as it; the whole has one batch more.
func TestBeginnings(t *testing.T) {
	files := []string{"", "A: 1\n", "#%gen 3\n\n", "#%gen 2147483648\n\n# c\n\n%: 1\n 2\n", recordLooks, "# c\n" + recordInsert + recordDrop + recordTwice, "#%gen 7\n\nA: 1\n\n" + recordDots}
	batches := [][]api.Edit{batchDrop, batchInsert, batchDots, batchLooks, batchTwice, {insert(-1, "end 3", "\n\n\n"), drop(math.MinInt), replace(0, "%", "#%gen 1\n\n")}, slices.Repeat(batchDrop, 40)}
	for _, file := range files {
		for _, tail := range []string{"", "%", "%amend 12 00ff", recordInsert[:30]} {
			before, ok := holdText(t, file+tail)
			if !ok || before.Whole() != len(file) {
				t.Fatalf("%q: %v", file+tail, ok)
			}
			for _, batch := range batches {
				next, ok := holdAppended(t, file+tail, batch...)
				if !ok || !strings.HasPrefix(next, file) {
					t.Fatalf("%q and %v: %v", file+tail, batch, ok)
				}
				holdCut(t, before, file, next, batch)
			}
		}
	}
}

// holdCut holds that each beginning of next that has all of file is that file with a tail; and next itself the file with the batch.
func holdCut(t *testing.T, before book.Book, file, next string, batch []api.Edit) {
	t.Helper()
	for n := len(file); n < len(next); n++ {
		b, ok := holdText(t, next[:n])
		want := before
		want.Tail = next[len(file):n]
		if !ok || !sameBook(b, want) || b.Whole() != len(file) || b.Size() != n {
			t.Fatalf("%.300q, cut to %d: %.300v %v", next, n, b, ok)
		}
		if again, err := book.Appended(next[:n], batch...); again != next || err != nil {
			t.Fatalf("%.300q, cut to %d: appended again %.300q %v", next, n, again, err)
		}
	}
	want := before
	want.Tail = ""
	want.Batches = append(slices.Clone(before.Batches), batch)
	want.Ends = append(slices.Clone(before.Ends), len(next))
	if b, ok := holdText(t, next); !ok || !sameBook(b, want) {
		t.Errorf("%.300q: %.300v, not %.300v", next, b, want)
	}
}

// P13.2: long records, cut at some places.
func TestLongBeginnings(t *testing.T) {
	file := "#%gen 3\n\n" + remark(60000) + recordInsert
	before, _ := holdText(t, file)
	for _, size := range []int{9999, 10000, 49999, 50000} {
		next, ok := holdAppended(t, file, sized(size)...)
		if !ok {
			t.Fatal(size)
		}
		for n := len(file); n < len(next); n++ {
			if far := n > len(file)+60 && n < len(next)-30; far && n%997 != 0 {
				continue
			}
			want := before
			want.Tail = next[len(file):n]
			if b, ok := holdText(t, next[:n]); !ok || !sameBook(b, want) {
				t.Errorf("%d, cut to %d: %v", size, n, ok)
			}
		}
		if b, ok := holdText(t, next); !ok || len(b.Batches) != 2 || !edit.Same(b.Batches[1], sized(size)) {
			t.Errorf("%d: %v", size, ok)
		}
	}
}

// P13.1: a file with a byte that is another one, away, or put in: within a record it is that one that is corrupt.
func TestOneByteWrong(t *testing.T) {
	ahead := "#%gen 12\n\nA: 1\n# c\n"
	text := ahead + recordLooks + recordDots + recordDrop
	b, ok := holdText(t, text)
	if !ok || len(b.Ends) != 3 {
		t.Fatal(b)
	}
	for _, behind := range []string{"", "%amend 10 66"} {
		for i := range len(text) + len(behind) {
			whole := text + behind
			holdText(t, whole[:i])
			holdText(t, whole[:i]+whole[i+1:])
			for one := range 256 {
				other := string([]byte{byte(one)})
				holdText(t, whole[:i]+other+whole[i:])
				changed := whole[:i] + other + whole[i+1:]
				holdText(t, changed)
				record := 0
				for record < 3 && b.Ends[record] <= i {
					record++
				}
				// Without its very first byte the first record is taken for lines of the base text.
				if i <= len(ahead) || record == 3 || changed == whole {
					continue
				}
				if _, err := book.Read(changed); !sameError(err, &api.Fault{At: record, Err: api.ErrCorrupt}) {
					t.Errorf("%q with %q at %d: %v, not corrupt at %d", whole, other, i, err, record)
				}
			}
		}
	}
}

// P13.1: all texts of up to some pieces of files.
func TestPieces(t *testing.T) {
	seen := map[error]int{}
	count := func(text string) {
		holdText(t, text)
		_, err := book.Read(text)
		if f, ok := err.(*api.Fault); ok {
			err = f.Err
		}
		seen[err]++
	}
	eachText([]string{"#%gen 3\n\n", "A: 1\n", " x\n", "\n", "%: 1\n", "%am", recordDrop, recordInsert, recordNone}, 5, count)
	eachText([]string{"#%gen ", "3", "\n", "#", "%amend ", "%", ":", " "}, 6, count)
	eachText([]string{"%amend 10 ", "6662df79", "\n", " delete 1\n", "%end 10", "%end 3\n", "%", "A: 1"}, 6, count)
	for _, err := range []error{nil, api.ErrForm, api.ErrCorrupt} {
		if seen[err] < 100 {
			t.Error(err, seen[err])
		}
	}
}

// P13.1: Fresh and Appended of all texts of up to some pieces.
func TestPiecesChanged(t *testing.T) {
	pieces := []string{"#%gen 3\n\n", "A: 1\n", " x\n", "\n", "%am", recordDrop, recordNone, "A"}
	eachText(pieces, 4, func(text string) {
		for _, gen := range []int{-1, 0, 1, 3, 1 << 31, 1<<31 + 1} {
			fresh, ok := holdFresh(t, gen, text)
			b, read := holdText(t, fresh)
			if own := strings.HasPrefix(text, pieces[0]); ok && (!read || len(b.Ends) > 0 || b.Tail != "" || (gen > 0 || !own) && (b.Gen != gen || b.Base != text)) {
				t.Errorf("%d, %q: %v", gen, text, b)
			}
		}
		for _, batch := range [][]api.Edit{nil, batchInsert, {{}}} {
			holdAppended(t, text, batch...)
		}
	})
}

// randomText is a text of some of these pieces.
func randomText(random *rand.Rand, most int, pieces ...string) string {
	text := ""
	for range random.IntN(most + 1) {
		text += pieces[random.IntN(len(pieces))]
	}
	return text
}

// randomBatch is a good batch.
func randomBatch(random *rand.Rand) []api.Edit {
	var batch []api.Edit
	for range 1 + random.IntN(5) {
		x := api.Edit{Kind: 1 + random.IntN(3), ID: random.IntN(100) - 20}
		for range 1 + random.IntN(3) {
			key := []string{"k", "%"}[random.IntN(2)] + randomText(random, 3, "a", "%", " ", "#", "amend 3", "\xff")
			x.Fields = append(x.Fields, api.Field{Key: key, Value: randomText(random, 6, "\n", " ", "\t", ".", "%end 3", ":", "x", "\r", "\xff")})
		}
		if x.Kind == api.Delete {
			x.Fields = nil
		}
		batch = append(batch, x)
	}
	return batch
}

// P13.1, P13.2: files at random, with records appended, cut, and with some bytes changed.
func TestRandom(t *testing.T) {
	random := rand.New(rand.NewPCG(13, 1))
	for range 1500 {
		base := randomText(random, 6, "A: 1\n", "\n", "# c\n", "%: 2\n", "%x: 3\n 4\n", " \n", "B:\n\t.\n")
		gen := random.IntN(3) * int(random.Uint32()>>2)
		text, ok := holdFresh(t, gen, base)
		if !ok {
			t.Fatalf("%d, %q: %v", gen, base, ok)
		}
		want := book.Book{Gen: gen, Base: base}
		for range random.IntN(6) {
			batch := randomBatch(random)
			if random.IntN(2) == 0 {
				text += "%amend 12 89abcdef\n x\n y"[:random.IntN(25)]
			}
			if text, ok = holdAppended(t, text, batch...); !ok {
				t.Fatalf("%v: not appended", batch)
			}
			want.Batches, want.Ends = append(want.Batches, batch), append(want.Ends, len(text))
		}
		if b, ok := holdText(t, text); !ok || !sameBook(b, want) {
			t.Fatalf("%q: %v, not %v", text, b, want)
		}
		for range 8 {
			holdText(t, text[:random.IntN(len(text)+1)])
			at := random.IntN(len(text) + 1)
			other := randomText(random, 2, "\n", "%", " ", "x", ":", "%am", recordDrop, "A: 1\n")
			holdText(t, text[:at]+other+text[min(at+random.IntN(3), len(text)):])
		}
		if t.Failed() {
			return
		}
	}
}

// P13.1: long texts of small parts end, and are as told.
func TestLongTexts(t *testing.T) {
	records := strings.Repeat(recordDrop, 120000/len(recordDrop))
	b, ok := holdText(t, records)
	if !ok || len(b.Batches) != 3243 || b.Ends[3242] != len(records) {
		t.Error(ok, len(b.Batches))
	}
	refused(t, records+"\n", 3243, api.ErrCorrupt)
	for _, text := range []string{strings.Repeat("%: 1\n", 12000), strings.Repeat("#%gen 1\n\n", 13000), strings.Repeat("%am", 40000), strings.Repeat("%amend 2 00000000\n", 6000), strings.Repeat("%amend 50000 00000000\n \n", 5000), strings.Repeat("\n", 120000), recordDrop + strings.Repeat(" ", 119000)} {
		holdText(t, text)
	}
}

// spoil changes a list's elements, and what is in its spare room.
func spoil[T any](list []T) {
	var zero T
	clear(append(list, zero))
	clear(list[:cap(list)])
}

// spared is a batch with something in the spare room of each of its lists.
func spared() []api.Edit {
	batch := []api.Edit{replace(2, "A", "x\ny", "A", "behind"), drop(1), insert(0, "C", "", "A", "behind"), insert(0, "D", "behind")}
	batch[0].Fields = batch[0].Fields[:1]
	batch[2].Fields = batch[2].Fields[:1]
	return batch
}

// P13.3: what is handed in stays as it was, with its spare room.
func TestArgumentsStay(t *testing.T) {
	batch := spared()
	for n := range len(batch) {
		for _, text := range []string{"A: 1\n%am", "A\n", recordDrop} {
			book.Appended(text, batch[:n]...)
		}
	}
	if !edit.Same(batch, spared()) {
		t.Error(batch)
	}
	for _, i := range []int{0, 2} {
		if behind := batch[i].Fields[:2][1]; behind != fields("A", "behind")[0] {
			t.Errorf("the spare room of edit %d: %v", i, behind)
		}
	}
}

// P13.3: a book stays as it was when it is asked.
func TestAskedBookStays(t *testing.T) {
	text := "#%gen 3\n\nA: 1\n" + recordInsert + recordLooks + "%am"
	b, _ := holdText(t, text)
	want, _ := book.Read(text)
	for range 3 {
		if b.Size() != len(text) || b.Whole() != len(text)-3 || !sameBook(b, want) {
			t.Error(b)
		}
	}
}

// P13.3: nothing of what was handed in is kept: whoever changes it afterwards changes no answer.
func TestNothingIsKept(t *testing.T) {
	batch := spared()[:3]
	text, err := book.Appended("A: 1\n", batch...)
	if err != nil {
		t.Fatal(err)
	}
	for _, x := range batch {
		spoil(x.Fields)
	}
	spoil(batch)
	if text != "A: 1\n"+plainRecord(" replace 2\n  A: x\n   y\n delete 1\n insert 0\n  C:\n") {
		t.Errorf("%q", text)
	}
}

// P13.3: an answer is new: no two lists of it share any, and whoever changes it changes no later answer.
func TestAnswersAreNew(t *testing.T) {
	text := "#%gen 3\n\nA: 1\n" + recordInsert + recordLooks + recordTwice + recordDots + recordInsert + "%am"
	want := [][]api.Edit{batchInsert, batchLooks, batchTwice, batchDots, batchInsert}
	for range 2 {
		b, err := book.Read(text)
		other, _ := book.Read(text)
		if err != nil || !slices.EqualFunc(b.Batches, want, edit.Same) {
			t.Fatal(b, err)
		}
		for i, batch := range b.Batches {
			for _, x := range batch {
				spoil(x.Fields)
			}
			spoil(batch)
			if !slices.EqualFunc(b.Batches[i+1:], want[i+1:], edit.Same) {
				t.Errorf("not apart at %d: %v", i, b)
			}
		}
		ends := slices.Clone(b.Ends)
		spoil(b.Batches)
		if !slices.Equal(b.Ends, ends) {
			t.Error("not apart", b.Ends)
		}
		spoil(b.Ends)
		if !slices.EqualFunc(other.Batches, want, edit.Same) || !slices.Equal(other.Ends, ends) {
			t.Error("another answer has changed", other)
		}
	}
	for range 2 {
		for _, c := range []string{"A: 1\nB\n", recordDrop + "\n"} {
			_, err := book.Read(c)
			var fault *api.Fault
			if !errors.As(err, &fault) || fault.At != 1 {
				t.Fatal(err)
			}
			*fault = api.Fault{}
		}
	}
}
