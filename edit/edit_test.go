package edit_test

import (
	"math"
	"math/rand/v2"
	"slices"
	"strings"
	"testing"

	"stanzakeep/api"
	"stanzakeep/edit"
	"stanzakeep/list"
	"stanzakeep/print"
)

// many is a text of n stanzas.
func many(n int) string {
	return strings.Repeat("A: 1\n\n", n)
}

// P9.1, P9.2: the chapter's example, and others, written out.
func TestWrittenOut(t *testing.T) {
	three := "A: 1\n\n# c\n\nA: 2\n\nA:3\n"
	for _, c := range []struct {
		text  string
		batch []api.Edit
		want  string
		ids   []int
		back  []api.Edit
	}{
		{three, []api.Edit{drop(2)}, "A: 1\n\n# c\n\n\nA:3\n", nil, []api.Edit{insert(1, "A", "2")}},
		{three, []api.Edit{drop(1)}, "\n# c\n\nA: 2\n\nA:3\n", nil, []api.Edit{insert(0, "A", "1")}},
		{three, []api.Edit{replace(3, "A", "3")}, "A: 1\n\n# c\n\nA: 2\n\nA: 3\n", nil, []api.Edit{replace(3, "A", "3")}},
		{three, []api.Edit{insert(0, "B", "\n")}, "B:\n .\n\nA: 1\n\n# c\n\nA: 2\n\nA:3\n", []int{4}, []api.Edit{drop(4)}},
		{three, []api.Edit{insert(3, "B", "")}, three + "\nB:\n", []int{4}, []api.Edit{drop(4)}},
		// The fields, and who stands ahead, are those just ahead of the edit, not those ahead of the batch.
		{"A: 1\n", []api.Edit{replace(1, "B", "2"), replace(1, "C", "3")}, "C: 3\n", nil, []api.Edit{replace(1, "B", "2"), replace(1, "A", "1")}},
		{"A: 1\n", []api.Edit{replace(1, "B", "2"), drop(1)}, "", nil, []api.Edit{insert(0, "B", "2"), replace(2, "A", "1")}},
		{"A: 1\n\nB: 2\n", []api.Edit{drop(1), drop(2)}, "\n", nil, []api.Edit{insert(0, "B", "2"), insert(0, "A", "1")}},
		{"A: 1\n\nB: 2\n", []api.Edit{drop(2), drop(1)}, "\n", nil, []api.Edit{insert(0, "A", "1"), insert(3, "B", "2")}},
		{"A: 1\n\nB: 2\n", []api.Edit{insert(1, "C", ""), drop(2)}, "A: 1\n\nC:\n\n", []int{3}, []api.Edit{insert(3, "B", "2"), drop(3)}},
		// What the batch inserted is edited by it, too; when it comes back, it goes by its new number.
		{"", []api.Edit{insert(0, "A", "1"), drop(1)}, "", []int{1}, []api.Edit{insert(0, "A", "1"), drop(2)}},
		{"", []api.Edit{insert(0, "A", "1"), insert(1, "B", "2"), replace(2, "C", "3"), drop(1), drop(2)}, "", []int{1, 2},
			[]api.Edit{insert(0, "C", "3"), insert(0, "A", "1"), replace(3, "B", "2"), drop(3), drop(4)}},
		{"A: 1\n\nB: 2\n\nC: 3\n", []api.Edit{drop(3), drop(2), insert(1, "D", "4"), drop(1)}, "D: 4\n\n\n", []int{4},
			[]api.Edit{insert(0, "A", "1"), drop(4), insert(5, "B", "2"), insert(6, "C", "3")}},
	} {
		l := of(t, c.text)
		done, ids, err := edit.Do(l, c.batch...)
		if err != nil || done.Text() != c.want || !slices.Equal(ids, c.ids) || l.Text() != c.text {
			t.Errorf("%v on %q: %q %v %v", c.batch, c.text, done.Text(), ids, err)
		}
		if back, err := edit.Back(l, c.batch...); err != nil || !edit.Same(back, c.back) {
			t.Errorf("%v on %q: the way back is %v %v", c.batch, c.text, back, err)
		}
		hold(t, l, c.batch)
	}
}

// P9.1: Check answers the first edit that isn't good, with its own place alone.
func TestCheck(t *testing.T) {
	good := insert(0, "A", "1")
	for _, c := range []struct {
		batch []api.Edit
		at    int // -1: a bare error
		want  error
	}{
		{nil, -1, api.ErrRange},
		{[]api.Edit{}, -1, api.ErrRange},
		{slices.Repeat([]api.Edit{good}, 41), -1, api.ErrRange},
		{slices.Repeat([]api.Edit{{}}, 41), -1, api.ErrRange},
		{slices.Repeat([]api.Edit{good}, 40), 0, nil},
		{slices.Repeat([]api.Edit{good, {}}, 20), 1, api.ErrForm},
		{[]api.Edit{good, good, {}}, 2, api.ErrForm},
		{[]api.Edit{{Kind: 0, Fields: fields("A", "1")}}, 0, api.ErrForm},
		{[]api.Edit{{Kind: 4, Fields: fields("", "")}}, 0, api.ErrForm},
		{[]api.Edit{{Kind: -1, Fields: fields("A", x(1001))}}, 0, api.ErrForm},
		{[]api.Edit{{Kind: math.MinInt}}, 0, api.ErrForm},
		{[]api.Edit{{Kind: math.MaxInt}}, 0, api.ErrForm},
		{[]api.Edit{{Kind: api.Delete, Fields: fields("A", "1")}}, 0, api.ErrForm},
		{[]api.Edit{{Kind: api.Delete, Fields: fields("", "")}}, 0, api.ErrForm},
		{[]api.Edit{{Kind: api.Delete, Fields: slices.Repeat(fields("A", "1"), 41)}}, 0, api.ErrForm},
		{[]api.Edit{{Kind: api.Delete, Fields: []api.Field{}}}, 0, nil},
		{[]api.Edit{replace(1)}, 0, api.ErrForm},
		{[]api.Edit{insert(1)}, 0, api.ErrForm},
		{[]api.Edit{good, insert(1, "A", "1", "B", "2", ":", "3")}, 1, api.ErrKey},
		{[]api.Edit{good, replace(1, "A", "1", "", x(1001))}, 1, api.ErrKey},
		{[]api.Edit{good, good, good, replace(1, "A", x(1001), "", "")}, 3, api.ErrValue},
		{[]api.Edit{replace(1, x(33), "")}, 0, api.ErrKey},
		{[]api.Edit{replace(1, x(32), x(1000))}, 0, nil},
		{[]api.Edit{{Kind: api.Insert, Fields: slices.Repeat(fields("A", ""), 40)}}, 0, nil},
		{[]api.Edit{{Kind: api.Insert, Fields: slices.Repeat(fields("", x(1001)), 41)}}, 0, api.ErrFull},
		{[]api.Edit{replace(1, "", ""), replace(1)}, 0, api.ErrKey},
		{[]api.Edit{{Kind: api.Insert, ID: math.MinInt, Fields: fields("A", "")}, drop(math.MaxInt), drop(-1)}, 0, nil},
	} {
		want := c.want
		if want != nil && c.at >= 0 {
			want = &api.Fault{At: c.at, Err: c.want}
		}
		if err := edit.Check(c.batch...); !sameError(err, want) {
			t.Errorf("%.100v: %v, not %v at %d", c.batch, err, c.want, c.at)
		}
		hold(t, of(t, "A: 1\n"), c.batch)
		hold(t, nil, c.batch)
	}
}

// P9.1, P9.2: what Check says comes first, wherever it is; then the first edit that the list refuses, and nothing is done.
func TestRefusals(t *testing.T) {
	good := replace(1, "B", "2")
	for _, c := range []struct {
		batch []api.Edit
		at    int
		want  error
	}{
		{[]api.Edit{drop(1), good}, 1, api.ErrNone},
		{[]api.Edit{good, drop(2)}, 1, api.ErrNone},
		{[]api.Edit{good, drop(0), drop(7)}, 1, api.ErrNone},
		{[]api.Edit{good, replace(0, "A", ""), drop(7)}, 1, api.ErrNone},
		{[]api.Edit{good, good, insert(-1, "A", "")}, 2, api.ErrNone},
		{[]api.Edit{insert(2, "A", ""), insert(0, "A", "")}, 0, api.ErrNone},
		{[]api.Edit{insert(0, "A", ""), drop(2), insert(2, "A", "")}, 2, api.ErrNone},
		{[]api.Edit{drop(9), good, {}}, 2, api.ErrForm},
		{[]api.Edit{drop(9), insert(9, ":", "")}, 1, api.ErrKey},
		{[]api.Edit{drop(9), insert(9, "A", x(1001))}, 1, api.ErrValue},
	} {
		l := of(t, "A: 1\n")
		want := &api.Fault{At: c.at, Err: c.want}
		if done, ids, err := edit.Do(l, c.batch...); done != nil || len(ids) > 0 || !sameError(err, want) {
			t.Errorf("%v: %q %v %v, not %v at %d", c.batch, done.Text(), ids, err, c.want, c.at)
		}
		if back, err := edit.Back(l, c.batch...); len(back) > 0 || !sameError(err, want) {
			t.Errorf("%v: %v %v, not %v at %d", c.batch, back, err, c.want, c.at)
		}
		if l.Text() != "A: 1\n" || l.Next() != 2 {
			t.Errorf("%v: %q %d", c.batch, l.Text(), l.Next())
		}
		hold(t, l, c.batch)
	}
}

// P9.1, P9.2: a list of 400 stanzas takes one more when one has gone; and so does the way back.
func TestFull(t *testing.T) {
	full, short := of(t, many(400)), of(t, many(399))
	one := insert(0, "A", "")
	for _, c := range []struct {
		l     *list.List
		batch []api.Edit
		want  error
	}{
		{full, []api.Edit{one}, &api.Fault{At: 0, Err: api.ErrFull}},
		{full, []api.Edit{replace(400, "B", ""), one, drop(1)}, &api.Fault{At: 1, Err: api.ErrFull}},
		{full, []api.Edit{insert(401, "A", "")}, &api.Fault{At: 0, Err: api.ErrNone}},
		{full, []api.Edit{drop(1), one}, nil},
		{full, []api.Edit{drop(400), insert(399, "A", ""), drop(401), one}, nil},
		{full, []api.Edit{drop(400), one, one}, &api.Fault{At: 2, Err: api.ErrFull}},
		{short, []api.Edit{one}, nil},
		{short, []api.Edit{one, one}, &api.Fault{At: 1, Err: api.ErrFull}},
		{short, []api.Edit{one, drop(7), insert(6, "A", "")}, nil},
	} {
		if _, _, err := edit.Do(c.l, c.batch...); !sameError(err, c.want) {
			t.Errorf("%v: %v, not %v", c.batch, err, c.want)
		}
		if got := hold(t, c.l, c.batch); got != (c.want == nil) {
			t.Errorf("%v: done %v", c.batch, got)
		}
	}
	var all []api.Edit
	for id := range 20 {
		all = append(all, drop(20*id+1), insert(20*id, "B", x(1000)))
	}
	if !hold(t, full, all) {
		t.Error("40 edits")
	}
}

// P9.1: a nil list has no stanza, and takes none; what Check says comes first there, too.
func TestNil(t *testing.T) {
	none := &api.Fault{At: 0, Err: api.ErrNone}
	for _, c := range []struct {
		batch []api.Edit
		want  error
	}{
		{nil, api.ErrRange},
		{[]api.Edit{insert(0, "A", "1")}, none},
		{[]api.Edit{insert(1, "A", "1")}, none},
		{[]api.Edit{replace(0, "A", "1")}, none},
		{[]api.Edit{drop(0), drop(1)}, none},
		{[]api.Edit{drop(0), {}}, &api.Fault{At: 1, Err: api.ErrForm}},
	} {
		if done, ids, err := edit.Do(nil, c.batch...); done != nil || len(ids) > 0 || !sameError(err, c.want) {
			t.Errorf("%v: %q %v %v", c.batch, done.Text(), ids, err)
		}
		if back, err := edit.Back(nil, c.batch...); len(back) > 0 || !sameError(err, c.want) {
			t.Errorf("%v: %v %v", c.batch, back, err)
		}
		hold(t, nil, c.batch)
	}
}

// P9.1: Same asks for the kind, the number and each field, in order; nil and empty lists are the same.
func TestSame(t *testing.T) {
	batches := [][]api.Edit{
		nil,
		{{}},
		{{Kind: 9}},
		{drop(1)},
		{drop(2)},
		{drop(1), drop(2)},
		{drop(2), drop(1)},
		{drop(1), drop(1)},
		{replace(1, "A", "1")},
		{insert(1, "A", "1")},
		{insert(1, "A", "2")},
		{insert(1, "B", "1")},
		{insert(1, "A", "1", "A", "1")},
		{insert(1, "A", "1", "A", "2")},
		{insert(1, "A", "2", "A", "1")},
		{insert(1, "", "")},
		{insert(1, "A", "1"), drop(1)},
		{insert(1, "A1", "")},
		slices.Repeat([]api.Edit{drop(1)}, 41),
	}
	for i, a := range batches {
		for k, b := range batches {
			if got := edit.Same(a, edit.Copy(b)); got != (i == k) || got != plainSame(a, b) {
				t.Errorf("%v and %v: %v", a, b, got)
			}
		}
	}
	if !edit.Same(nil, []api.Edit{}) || !edit.Same([]api.Edit{}, nil) {
		t.Error("nil and empty batches")
	}
	if empty := []api.Edit{{Kind: api.Delete, ID: 1, Fields: []api.Field{}}}; !edit.Same(empty, []api.Edit{drop(1)}) || !edit.Same([]api.Edit{drop(1)}, empty) {
		t.Error("nil and empty fields")
	}
}

// P9.1: Size counts the bytes of all keys and values, of any edits.
func TestSize(t *testing.T) {
	for _, c := range []struct {
		batch []api.Edit
		want  int
	}{
		{nil, 0},
		{[]api.Edit{drop(12), {}}, 0},
		{[]api.Edit{insert(0, "Ab", "\n. é"), drop(1)}, 7},
		{[]api.Edit{insert(0, "A", "", "", "1"), replace(1, "A", "23")}, 5},
		{[]api.Edit{{Kind: 9, Fields: fields(":", x(1001))}, {Kind: api.Delete, Fields: fields("A", "")}}, 1003},
		{slices.Repeat([]api.Edit{insert(0, slices.Repeat([]string{x(33)}, 82)...)}, 41), 41 * 82 * 33},
	} {
		if got := edit.Size(c.batch...); got != c.want {
			t.Errorf("%.100v: %d, not %d", c.batch, got, c.want)
		}
	}
}

// P9.1, P9.2: of some texts all batches of up to three of some edits.
func TestAllShort(t *testing.T) {
	edits := []api.Edit{{}, {Kind: api.Delete, ID: 1, Fields: fields("A", "")}, insert(0), replace(1, "A", "", "", ""), insert(-1, "A", "")}
	for id := range 5 {
		edits = append(edits, drop(id), replace(id, "C", "3\n"), insert(id, "D", "", "D", "4"))
	}
	for _, text := range []string{"", "# a\n", "A:1\n", "A:1\n# in\n\nB: 2\n", "# a\n\n\nA: 1\n\n# b\n\nB:\n .\n \n\nA: 1\n"} {
		l := of(t, text)
		for length := range 4 {
			total := 1
			for range length {
				total *= len(edits)
			}
			for n := range total {
				var batch []api.Edit
				for range length {
					batch = append(batch, edits[n%len(edits)])
					n /= len(edits)
				}
				hold(t, l, batch)
			}
		}
	}
}

// randomFields is good fields, whose values are of what folding has to do with.
func randomFields(random *rand.Rand) []api.Field {
	var list []api.Field
	for range 1 + random.IntN(3) {
		value := ""
		for range random.IntN(6) {
			value += []string{"\n", " ", "\t", ".", "#", ":", "x", "\xff"}[random.IntN(8)]
		}
		list = append(list, api.Field{Key: []string{"A", "B c", "x ", "-#"}[random.IntN(4)], Value: value})
	}
	return list
}

// randomBatch is a batch that the list takes: what would be refused is left out.
func randomBatch(random *rand.Rand, l *list.List, most int) []api.Edit {
	var batch []api.Edit
	m := l.Copy()
	for range most {
		id := random.IntN(m.Next() + 1)
		one := []api.Edit{{Kind: api.Replace, ID: id, Fields: randomFields(random)}, drop(id), {Kind: api.Insert, ID: id, Fields: randomFields(random)}}[random.IntN(3)]
		if next, _, err := edit.Do(m, one); err == nil {
			m, batch = next, append(batch, one)
		}
	}
	return batch
}

// P9.1, P9.2: long batches at random, one behind the other on a list, and each of them with one edit changed.
func TestLong(t *testing.T) {
	random := rand.New(rand.NewPCG(9, 1))
	for range 150 {
		l := of(t, strings.Repeat("A: 1\n\n# c\n\nB:2\n\n\n", random.IntN(5)))
		for range 8 {
			batch := randomBatch(random, l, 1+random.IntN(40))
			if len(batch) == 0 {
				continue
			}
			if !hold(t, l, batch) {
				t.Fatalf("refused: %v", batch)
			}
			wrong := edit.Copy(batch)
			wrong[random.IntN(len(wrong))].ID += random.IntN(5) - 2
			hold(t, l, wrong)
			l, _, _ = edit.Do(l, batch...)
		}
	}
}

// P9.2: what a replaced stanza had comes back whole, at the limits of fields, keys and values; what it looked like doesn't.
func TestBackAtLimits(t *testing.T) {
	long := slices.Repeat(fields(x(32), x(1000)), 40)
	text, err := print.Text(long, fields("A", "\n\n.\n "))
	if err != nil {
		t.Fatal(err)
	}
	l := of(t, text+"\nB:2\n m\n# in\n")
	hold(t, l, []api.Edit{replace(1, "A", ""), drop(2), replace(3, "A", ""), drop(1), drop(3)})
	hold(t, l, []api.Edit{{Kind: api.Insert, Fields: long}, {Kind: api.Replace, ID: 4, Fields: long}, drop(4), drop(1)})
	back, err := edit.Back(l, drop(3))
	if err != nil || !edit.Same(back, []api.Edit{insert(2, "B", "2\nm")}) {
		t.Error(back, err)
	}
}

// spoil changes a list's elements, and what is in its spare room.
func spoil[T any](list []T) {
	var zero T
	clear(append(list, zero))
	clear(list[:cap(list)])
}

// spoilAll spoils all lists of a batch.
func spoilAll(batch []api.Edit) {
	for _, x := range batch {
		spoil(x.Fields)
	}
	spoil(batch)
}

// spared is a batch with something in the spare room of each of its lists.
func spared() []api.Edit {
	batch := []api.Edit{replace(2, "A", "x", "A", "behind"), insert(2, "B", "y", "A", "behind"), drop(1), insert(0, "C", "z", "A", "behind"), insert(0, "D", "behind")}
	for i := range batch[:4] {
		if len(batch[i].Fields) > 0 {
			batch[i].Fields = batch[i].Fields[:1]
		}
	}
	return batch
}

// P9.3: what is handed in stays as it was, with its spare room.
func TestArgumentsStay(t *testing.T) {
	batch := spared()
	l := of(t, "# a\n\nA: 1\n\nA:2\n")
	before := l.Copy()
	for n := range len(batch) {
		edit.Check(batch[:n]...)
		edit.Size(batch[:n]...)
		edit.Same(batch[:n], batch[1:])
		spoilAll(edit.Copy(batch[:n]))
		if done, ids, err := edit.Do(l, batch[:n]...); err == nil {
			spoil(ids)
			done.Insert(0, fields("E", "")...)
			done.Replace(2, fields("F", "")...)
			done.Delete(2)
		}
		if back, err := edit.Back(l, batch[:n]...); err == nil {
			spoilAll(back)
		}
	}
	if !edit.Same(batch, spared()) {
		t.Error(batch)
	}
	for i, x := range batch[:4] {
		if len(x.Fields) > 0 && (cap(x.Fields) < 2 || x.Fields[:2][1].Value != "behind") {
			t.Errorf("the spare room of edit %d", i)
		}
	}
	holdShown(t, "the list that was handed in", l, before)
}

// P9.3: nothing of what was handed in is kept: whoever changes it afterwards changes no answer.
func TestNothingIsKept(t *testing.T) {
	batch := spared()[:4]
	l := of(t, "# a\n\nA: 1\n\nA:2\n")
	done, _, err := edit.Do(l, batch...)
	if err != nil {
		t.Fatal(err)
	}
	back, _ := edit.Back(l, batch...)
	same := edit.Copy(batch)
	spoilAll(batch)
	l.Delete(1)
	l.Replace(2, fields("E", "5")...)
	l.Insert(0, fields("F", "6")...)
	if got := done.Text(); got != "C: z\n\n# a\n\n\nA: x\n\nB: y\n" {
		t.Errorf("%q", got)
	}
	if !edit.Same(back, []api.Edit{drop(4), insert(0, "A", "1"), drop(3), replace(2, "A", "2")}) {
		t.Error(back)
	}
	if !edit.Same(same, spared()[:4]) {
		t.Error(same)
	}
}

// P9.3: an answer is new: no two lists of it share any, and whoever changes it changes no later answer.
func TestAnswersAreNew(t *testing.T) {
	l := of(t, "A: 1\nB: 1\n\nA: 2\n\nA: 3\n")
	batch := []api.Edit{drop(1), replace(2, "C", "4"), replace(2, "C", "5"), drop(2), drop(3)}
	want := []api.Edit{insert(0, "A", "3"), insert(0, "C", "5"), replace(5, "C", "4"), replace(5, "A", "2"), insert(0, "A", "1", "B", "1")}
	for range 2 {
		back, err := edit.Back(l, batch...)
		if err != nil {
			t.Fatal(err)
		}
		holdApart(t, back, want)
		holdApart(t, edit.Copy(batch), batch)
	}
	// The same fields twice in a batch are two lists in its copy.
	shared := fields("A", "1")
	holdApart(t, edit.Copy([]api.Edit{{Kind: api.Insert, Fields: shared}, {Kind: api.Insert, Fields: shared}}), []api.Edit{insert(0, "A", "1"), insert(0, "A", "1")})
	if got := edit.Copy(nil); len(got) != 0 {
		t.Error(got)
	}
	wrong := []api.Edit{{Kind: 9, ID: -1, Fields: fields("", x(1001))}, {Kind: api.Delete, Fields: slices.Repeat(fields(":", ""), 41)}}
	holdApart(t, edit.Copy(slices.Repeat(wrong, 30)), slices.Repeat(wrong, 30))
}

// holdApart holds a batch against the one wanted, and then again while its lists are spoiled one by one.
func holdApart(t *testing.T, got, want []api.Edit) {
	t.Helper()
	if !plainSame(got, want) {
		t.Errorf("%.100v, not %.100v", got, want)
		return
	}
	for i := range got {
		spoil(got[i].Fields)
		if !plainSame(got[i+1:], want[i+1:]) {
			t.Errorf("%.100v: not apart at %d", got, i)
		}
	}
	spoil(got)
}

// P9.3: the list that a batch made is apart from the one it was done on, and from others so made.
func TestListsAreApart(t *testing.T) {
	random := rand.New(rand.NewPCG(9, 3))
	for range 100 {
		lists := []*list.List{of(t, "# a\n\nA: 1\n\nB:2\n# in\n")}
		var texts []string
		for range 12 {
			l := lists[random.IntN(len(lists))]
			if batch := randomBatch(random, l, 5); len(batch) > 0 {
				done, _, _ := edit.Do(l, batch...)
				lists = append(lists, done)
			}
		}
		for _, l := range lists {
			texts = append(texts, l.Text())
		}
		for i, l := range lists {
			for _, s := range l.Stanzas() {
				l.Replace(s.ID, fields("Z", "")...)
			}
			l.Insert(0, fields("Z", "")...)
			for k, other := range lists[i+1:] {
				if other.Text() != texts[i+1+k] {
					t.Fatalf("list %d isn't apart from list %d", i+1+k, i)
				}
			}
		}
	}
}
