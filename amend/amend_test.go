package amend_test

import (
	"errors"
	"math"
	"math/rand/v2"
	"slices"
	"strings"
	"testing"

	"stanzakeep/amend"
	"stanzakeep/api"
	"stanzakeep/edit"
)

// P10.1, P10.2: the chapter's example, and others, written out.
func TestWrittenOut(t *testing.T) {
	for _, c := range []struct {
		batch []api.Edit
		text  string
	}{
		{[]api.Edit{drop(7)}, " delete 7\n"},
		{[]api.Edit{drop(0)}, " delete 0\n"},
		{[]api.Edit{drop(-12)}, " delete -12\n"},
		{[]api.Edit{drop(math.MaxInt), drop(math.MinInt)}, " delete 9223372036854775807\n delete -9223372036854775808\n"},
		{[]api.Edit{insert(0, "B", "2")}, " insert 0\n  B: 2\n"},
		{[]api.Edit{replace(10, "A", "1", "A", "")}, " replace 10\n  A: 1\n  A:\n"},
		{[]api.Edit{replace(1, "A", "1"), drop(1), insert(-1, "B", "2"), drop(1)}, " replace 1\n  A: 1\n delete 1\n insert -1\n  B: 2\n delete 1\n"},
		// A value of more lines, some of which go behind a dot.
		{[]api.Edit{insert(0, "A", "x\n\n.y")}, " insert 0\n  A: x\n   .\n   ..y\n"},
		{[]api.Edit{insert(0, "A", "\n")}, " insert 0\n  A:\n   .\n"},
		{[]api.Edit{insert(0, "A", "\n \n\t \n. \n b\n\tc\nd ")}, " insert 0\n  A:\n   . \n   .\t \n   .. \n    b\n   \tc\n   d \n"},
		{[]api.Edit{insert(0, "A", " "), insert(0, "A", "  b")}, " insert 0\n  A:  \n insert 0\n  A:   b\n"},
		// What looks like other lines of a text, in keys and values.
		{[]api.Edit{insert(0, "delete 1", "\ndelete 1\n delete 1\n%end: 3")}, " insert 0\n  delete 1:\n   delete 1\n    delete 1\n   %end: 3\n"},
		{[]api.Edit{insert(0, "%end", ": :", ".", "# #")}, " insert 0\n  %end: : :\n  .: # #\n"},
		{[]api.Edit{insert(0, "a b \t#", "é\r"), insert(0, "\xff\x00\r", "\xff\x00")}, " insert 0\n  a b \t#: é\r\n insert 0\n  \xff\x00\r: \xff\x00\n"},
	} {
		text, err := amend.Encode(c.batch...)
		if err != nil || text != c.text || amend.Length(c.batch...) != len(c.text) {
			t.Errorf("%v: %q %v, not %q", c.batch, text, err, c.text)
		}
		if batch, err := amend.Decode(c.text); err != nil || !edit.Same(batch, c.batch) {
			t.Errorf("%q: %v %v, not %v", c.text, batch, err, c.batch)
		}
		holdBatch(t, c.batch)
	}
}

// P10.1: a batch that isn't good has no text; Encode answers what layer 9's Check does, with its place.
func TestRefusedBatches(t *testing.T) {
	good := insert(0, "A", "1")
	for _, c := range []struct {
		batch []api.Edit
		at    int // -1: a bare error
		want  error
	}{
		{nil, -1, api.ErrRange},
		{[]api.Edit{}, -1, api.ErrRange},
		{slices.Repeat([]api.Edit{good}, 41), -1, api.ErrRange},
		{slices.Repeat([]api.Edit{{}}, 41), -1, api.ErrRange},
		{[]api.Edit{{}}, 0, api.ErrForm},
		{[]api.Edit{good, {Kind: 4, ID: 1}}, 1, api.ErrForm},
		{[]api.Edit{good, {Kind: -1, ID: 1, Fields: fields("A", "1")}}, 1, api.ErrForm},
		{[]api.Edit{{Kind: math.MinInt}, {Kind: math.MaxInt}}, 0, api.ErrForm},
		{[]api.Edit{good, good, {Kind: api.Delete, ID: 1, Fields: fields("A", "1")}}, 2, api.ErrForm},
		{[]api.Edit{replace(1)}, 0, api.ErrForm},
		{[]api.Edit{drop(1), insert(1)}, 1, api.ErrForm},
		{[]api.Edit{drop(1), insert(1, "A", "1", " b", "2")}, 1, api.ErrKey},
		{[]api.Edit{drop(1), insert(1, "A", "1", "B", x(1001), "", "")}, 1, api.ErrValue},
		{[]api.Edit{{Kind: api.Insert, Fields: slices.Repeat(fields("A", ""), 41)}}, 0, api.ErrFull},
	} {
		want := c.want
		if c.at >= 0 {
			want = &api.Fault{At: c.at, Err: c.want}
		}
		if text, err := amend.Encode(c.batch...); text != "" || !sameError(err, want) {
			t.Errorf("%.200v: %.200q %v, not %v at %d", c.batch, text, err, c.want, c.at)
		}
		if n := amend.Length(c.batch...); n != 0 {
			t.Errorf("%.200v: %d bytes", c.batch, n)
		}
		if holdBatch(t, c.batch) {
			t.Errorf("%.200v: good", c.batch)
		}
	}
}

// P10.1: what is no good batch's text is refused, though it may say as much as one.
func TestRefusedTexts(t *testing.T) {
	for _, text := range []string{
		// No edit, or a first line that is none.
		"", " ", "\n", "  ", " \n", "  \n", " delete\n", " delete \n", " keep 1\n", " Delete 1\n", " deletes 1\n", " 1\n", "  A: 1\n", "A: 1\n", "# c\n", "\x00",
		// Another space, or none, or a tab.
		"delete 1\n", "  delete 1\n", "\tdelete 1\n", " delete  1\n", " delete\t1\n", " delete1\n", " delete 1 \n", " delete 1\t\n", " delete 1\r\n", " delete 1 2\n",
		// No figures of an ID, or not the shortest ones, or too great.
		" delete x\n", " delete 1x\n", " delete 0x1\n", " delete 1_0\n", " delete 01\n", " delete 00\n", " delete +1\n", " delete -0\n", " delete -01\n", " delete --1\n", " delete -\n", " delete 1.0\n", " delete 1e3\n", " delete ١\n",
		" delete 9223372036854775808\n", " delete -9223372036854775809\n", " delete 18446744073709551617\n", " delete " + strings.Repeat("9", 400) + "\n",
		// A line that isn't ended.
		" delete 1", " delete 1\n delete 2", " insert 1\n  A: x", " insert 1\n  A:", " insert 1\n  A: x\n   y", " insert 1\n  A: x\n ", " insert 1\n  A: x\n  ",
		// Lines of fields where none may stand, and none where some must.
		" delete 1\n  A: 1\n", " delete 1\n   x\n", " insert 1\n", " replace 1\n", " insert 1\n delete 1\n", " delete 1\n insert 1\n", "  A: x\n insert 1\n", " insert 1\n   x\n", " insert 1\n   x\n  A: x\n",
		// Lines that are of no field: blank ones, comments, and others.
		" insert 1\n\n  A: x\n", " insert 1\n  A: x\n\n", " insert 1\n  A: x\n \n", " insert 1\n  A: x\n  \n", " insert 1\n  \n  A: x\n", " insert 1\n  A: x\n  \n  B: y\n", " insert 1\n  A: x\n   \n", " insert 1\n  A: x\n   \t\n", " delete 1\n\n", "\n delete 1\n", " delete 1\n  \n",
		" insert 1\n  # n\n  A: x\n", " insert 1\n  A: x\n  # n\n", " insert 1\n  # n\n", "# n\n insert 1\n  A: x\n", " insert 1\n# n\n  A: x\n",
		" insert 1\n  A\n", " insert 1\n  : x\n", " insert 1\n  A: x\n  b\n", " insert 1\n  " + x(33) + ": x\n",
		// Too few spaces ahead of a field's lines, or other blanks.
		" insert 1\nA: x\n", " insert 1\n A: x\n", " insert 1\n\tA: x\n", " insert 1\n \tA: x\n", " insert 1\n  A: x\n  y\n", " insert 1\n  A: x\n y\n", " insert 1\n  \tA: x\n", " insert 1\n  A: x\n  \ty\n", " insert 1\n  A: x\n\t  y\n",
		// Lines that say a field, but aren't its own.
		" insert 1\n  A:x\n", " insert 1\n  A: \n", " insert 1\n  A:\tx\n", " insert 1\n  A: x\n   .y\n", " insert 1\n  A: x\n   . y\n", " insert 1\n  A:x\n   .\n",
		// A wrong edit among good ones.
		" delete 1\n delete 02\n delete 3\n", " insert 1\n  A: x\n keep 1\n  A: x\n", " insert 1\n  A: x\n insert 1\n  A:x\n",
		// Too much.
		" insert 1\n  A: " + x(1001) + "\n", " insert 1\n  A:\n" + strings.Repeat("   .\n", 1001), " insert 1\n" + strings.Repeat("  A: x\n", 41), strings.Repeat(" delete 1\n", 41),
	} {
		if holdText(t, text) {
			t.Errorf("%.200q: decoded", text)
		}
	}
}

// P10.1: Line is of an edit of the three kinds its first line, be the edit good or not.
func TestLine(t *testing.T) {
	for _, c := range []struct {
		x    api.Edit
		want string
	}{
		{replace(12, "A", "1"), " replace 12"},
		{drop(-3), " delete -3"},
		{insert(0, "A", "1\n2"), " insert 0"},
		{replace(1), " replace 1"},
		{insert(100, "", x(1001)), " insert 100"},
		{api.Edit{Kind: api.Delete, ID: 10, Fields: fields("A", "1")}, " delete 10"},
		{api.Edit{Kind: api.Replace, ID: math.MinInt}, " replace -9223372036854775808"},
		{api.Edit{Kind: api.Insert, ID: math.MaxInt}, " insert 9223372036854775807"},
		{api.Edit{}, ""},
		{api.Edit{Kind: 0, ID: 1, Fields: fields("A", "1")}, ""},
		{api.Edit{Kind: 4, ID: 1, Fields: fields("A", "1")}, ""},
		{api.Edit{Kind: -1}, ""},
		{api.Edit{Kind: math.MinInt}, ""},
		{api.Edit{Kind: math.MaxInt}, ""},
	} {
		if got := amend.Line(c.x); got != c.want {
			t.Errorf("%.200v: %q, not %q", c.x, got, c.want)
		}
	}
}

// P10.1, P10.2: batches at the limits of edits, fields, keys and values.
func TestLimits(t *testing.T) {
	long := insert(1, x(32), x(1000))
	for _, batch := range [][]api.Edit{
		slices.Repeat([]api.Edit{drop(1)}, 40),
		slices.Repeat([]api.Edit{insert(-1, "A", "")}, 40),
		{{Kind: api.Replace, ID: 1, Fields: slices.Repeat(fields("A", ""), 40)}},
		{long},
		slices.Repeat([]api.Edit{long}, 40),
		{insert(1, "A", strings.Repeat("\n", 1000))},
		{insert(1, "A", strings.Repeat(".\n", 500)), replace(1, "A", strings.Repeat("\t\n ", 333)+".")},
		slices.Repeat([]api.Edit{{Kind: api.Insert, Fields: slices.Repeat(fields(x(32), strings.Repeat("\n", 1000)), 40)}}, 40),
	} {
		if !holdBatch(t, batch) {
			t.Errorf("%.200v: not good", batch)
		}
	}
}

// sized is a batch whose text has n bytes, from some 1100 to some 60000.
func sized(n int) []api.Edit {
	batch := []api.Edit{insert(0)}
	add := func(bytes int) { // of a field's line
		last := &batch[len(batch)-1]
		last.Fields = append(last.Fields, api.Field{Key: "A", Value: x(bytes - len("  A: \n"))})
	}
	left := n - len(" insert 0\n")
	for ; left > 1500; left -= 1000 {
		add(1000)
		if len(batch[len(batch)-1].Fields) == 40 {
			batch = append(batch, insert(0))
			left -= len(" insert 0\n")
		}
	}
	add(left / 2)
	add(left - left/2)
	return batch
}

// P10.1, P10.2: a text of 50000 bytes is decoded, one of a byte more is not, though it is a good batch's.
func TestLongTexts(t *testing.T) {
	for n := 49990; n <= 50010; n++ {
		batch := sized(n)
		text, err := amend.Encode(batch...)
		if err != nil || len(text) != n || amend.Length(batch...) != n {
			t.Fatalf("%d bytes, not %d: %v", len(text), n, err)
		}
		back, err := amend.Decode(text)
		if n <= 50000 && (err != nil || !edit.Same(back, batch)) {
			t.Errorf("%d bytes: %v", n, err)
		}
		if n > 50000 && (err != api.ErrForm || len(back) > 0) {
			t.Errorf("%d bytes: %v", n, err)
		}
		holdBatch(t, batch)
	}
	for _, text := range []string{x(1 << 20), strings.Repeat("\n", 1<<20), strings.Repeat(" delete 1\n", 1<<17), strings.Repeat("\n", 50000), strings.Repeat(" delete 1\n", 5000), " insert 1\n" + strings.Repeat("  A:\n", 9998), " insert 1\n  A:\n" + strings.Repeat("   .\n", 9997)} {
		if holdText(t, text) {
			t.Errorf("%.200q: decoded", text)
		}
	}
}

// P10.1, P10.2: all texts of up to five of some lines.
func TestAllShort(t *testing.T) {
	pieces := []string{" delete 1\n", " insert 0\n", " replace -2\n", "  A: x\n", "  B:\n", "   y\n", "   .\n", "   ..z\n", "   .z\n", "  C:x\n", "  # n\n", "  \n", "\n", " insert 0"}
	good := 0
	for length := range 6 {
		total := 1
		for range length {
			total *= len(pieces)
		}
		for n := range total {
			var text strings.Builder
			for range length {
				text.WriteString(pieces[n%len(pieces)])
				n /= len(pieces)
			}
			if holdText(t, text.String()) {
				good++
			}
			if t.Failed() {
				return
			}
		}
	}
	if good < 1000 {
		t.Errorf("%d texts were good batches' ones", good)
	}
}

// P10.1, P10.2: a text with any byte changed, taken away or put in is refused, or is that of another batch.
func TestEachByte(t *testing.T) {
	text := " replace 10\n  A: 1\n   .\n   ..x\n  B:\n delete -3\n insert 0\n  % e: 3 \n   \t.\n"
	if !holdText(t, text) {
		t.Fatal("not good")
	}
	for at := range len(text) + 1 {
		holdText(t, text[:at])
		holdText(t, text[at:])
		if at < len(text) {
			holdText(t, text[:at]+text[at+1:])
		}
		for b := range 256 {
			one := string([]byte{byte(b)})
			holdText(t, text[:at]+one+text[at:])
			if at < len(text) {
				holdText(t, text[:at]+one+text[at+1:])
			}
		}
	}
}

// randomText is a text of some of these pieces.
func randomText(random *rand.Rand, most int, pieces ...string) string {
	text := ""
	for range random.IntN(most + 1) {
		text += pieces[random.IntN(len(pieces))]
	}
	return text
}

// randomBatch is a batch of some edits, most of which are good.
func randomBatch(random *rand.Rand) []api.Edit {
	var batch []api.Edit
	for range 1 + random.IntN(8) {
		x := api.Edit{Kind: 1 + random.IntN(3), ID: random.IntN(100) - 20}
		if random.IntN(8) == 0 {
			x.ID = int(random.Uint64())
		}
		for range 1 + random.IntN(3) {
			key := randomText(random, 3, "a", "B", " ", "\t", "#", ".", "delete 1", "%", "\xff")
			x.Fields = append(x.Fields, api.Field{Key: "k" + key, Value: randomText(random, 6, "\n", "\n", " ", "\t", ".", "#", ":", "x", "\r", "\xff")})
		}
		if x.Kind == api.Delete {
			x.Fields = nil
		}
		batch = append(batch, x)
	}
	return batch
}

// P10.1, P10.2: batches at random, each of them with something made wrong, too; and their texts with some bytes changed.
func TestRandom(t *testing.T) {
	random := rand.New(rand.NewPCG(10, 1))
	for range 4000 {
		batch := randomBatch(random)
		if !holdBatch(t, batch) {
			t.Fatalf("%v: not good", batch)
		}
		text, _ := amend.Encode(batch...)
		for range 4 {
			at := random.IntN(len(text) + 1)
			other := randomText(random, 3, " ", "\n", "\t", ".", ":", "#", "0", "x", " delete 1\n", "  A: x\n")
			holdText(t, text[:at]+other+text[min(at+random.IntN(3), len(text)):])
		}
		wrong := edit.Copy(batch)
		one := &wrong[random.IntN(len(wrong))]
		switch random.IntN(4) {
		case 0:
			one.Kind = random.IntN(6) - 1
		case 1:
			one.Fields = nil
		case 2:
			one.Fields = append(one.Fields, api.Field{Key: randomText(random, 1, " ", "#", "a:", "a\n")})
		default:
			one.Fields = append(one.Fields, api.Field{Key: "A", Value: x(999 + random.IntN(4))})
		}
		holdBatch(t, wrong)
		if t.Failed() {
			return
		}
	}
}

// spoil changes a list's elements, and what is in its spare room.
func spoil[T any](list []T) {
	var zero T
	clear(append(list, zero))
	clear(list[:cap(list)])
}

// spoilAll spoils all lists of a batch.
func spoilAll(batch []api.Edit) {
	for _, x := range batch {
		spoil(x.Fields)
	}
	spoil(batch)
}

// spared is a batch with something in the spare room of each of its lists.
func spared() []api.Edit {
	batch := []api.Edit{replace(2, "A", "x\ny", "A", "behind"), drop(1), insert(0, "C", "", "A", "behind"), insert(0, "D", "behind")}
	batch[0].Fields = batch[0].Fields[:1]
	batch[2].Fields = batch[2].Fields[:1]
	return batch
}

// P10.3: what is handed in stays as it was, with its spare room.
func TestArgumentsStay(t *testing.T) {
	batch := spared()
	for n := range len(batch) {
		amend.Encode(batch[:n]...)
		amend.Length(batch[:n]...)
		for _, x := range batch[:n] {
			amend.Line(x)
		}
	}
	if !edit.Same(batch, spared()) {
		t.Error(batch)
	}
	for _, i := range []int{0, 2} {
		if behind := batch[i].Fields[:2][1]; behind != fields("A", "behind")[0] {
			t.Errorf("the spare room of edit %d: %v", i, behind)
		}
	}
}

// P10.3: nothing of what was handed in is kept: whoever changes it afterwards changes no answer.
func TestNothingIsKept(t *testing.T) {
	batch := spared()[:3]
	text, err := amend.Encode(batch...)
	if err != nil {
		t.Fatal(err)
	}
	line := amend.Line(batch[0])
	spoilAll(batch)
	if text != " replace 2\n  A: x\n   y\n delete 1\n insert 0\n  C:\n" || line != " replace 2" {
		t.Errorf("%q %q", text, line)
	}
}

// P10.3: an answer is new: no two lists of it share any, and whoever changes it changes no later answer.
func TestAnswersAreNew(t *testing.T) {
	want := []api.Edit{replace(1, "A", "1", "B", "2\n3"), drop(2), insert(3, "C", "4"), insert(4, "D", "5", "D", "6", "D", "7")}
	want = slices.Concat(want, want, want)
	text, err := amend.Encode(want...)
	if err != nil {
		t.Fatal(err)
	}
	for range 2 {
		batch, err := amend.Decode(text)
		other, _ := amend.Decode(text)
		if err != nil || !edit.Same(batch, want) {
			t.Fatal(batch, err)
		}
		for i := range batch {
			spoil(batch[i].Fields)
			if !edit.Same(batch[i+1:], want[i+1:]) {
				t.Errorf("not apart at %d: %v", i, batch)
			}
		}
		spoil(batch)
		if !edit.Same(other, want) {
			t.Error("another answer has changed", other)
		}
	}
	for range 2 {
		_, err := amend.Encode(drop(1), api.Edit{})
		var fault *api.Fault
		if !errors.As(err, &fault) || fault.At != 1 || fault.Err != api.ErrForm {
			t.Fatal(err)
		}
		*fault = api.Fault{}
	}
}
