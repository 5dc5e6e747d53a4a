package compact_test

import (
	"math/rand/v2"
	"slices"
	"strings"
	"testing"

	"stanzakeep/api"
	"stanzakeep/compact"
)

// record inserts B: 2 behind stanza 1, deletion deletes stanza 1.
const (
	record   = "%amend 17 835b6407\n insert 1\n  B: 2\n%end 17\n"
	deletion = "%amend 10 6662df79\n delete 1\n%end 10\n"
)

// P16.1, P16.2: fresh texts, written out.
func TestWrittenOut(t *testing.T) {
	for _, c := range []struct{ text, fresh string }{
		// The chapter's example.
		{"A: 1\n" + record, "#%gen 1\n\nA: 1\n\nB: 2\n"},
		{"", "#%gen 1\n\n"},
		{"\n", "#%gen 1\n\n\n"},
		{"A:1\n", "#%gen 1\n\nA:1\n"},
		{"#%gen 1\n\n", "#%gen 2\n\n"},
		{"#%gen 9\n\nA:   1\n# in\n \n\n", "#%gen 10\n\nA:   1\n# in\n \n\n"},
		{"#%gen 2147483647\n\nA: 1\n", "#%gen 2147483648\n\nA: 1\n"},
		{"A: 1\n" + deletion, "#%gen 1\n\n"},
		{"#%gen 3\n\n# top\n\nA:1\n" + deletion, "#%gen 4\n\n# top\n\n"},
		{"# top\n\nA:1\n\n# end\n" + record, "#%gen 1\n\n# top\n\nA:1\n\nB: 2\n\n# end\n"},
		{"A:1\n# in\n" + record + deletion, "#%gen 1\n\nB: 2\n"},
		// A tail isn't there any more.
		{"A: 1\n%am", "#%gen 1\n\nA: 1\n"},
		{"A: 1\n" + record + deletion[:len(deletion)-1], "#%gen 1\n\nA: 1\n\nB: 2\n"},
		{"%", "#%gen 1\n\n"},
		// What only resembles a header is a remark, and stays one, behind the header.
		{"#%gen 0\n\nA: 1\n", "#%gen 1\n\n#%gen 0\n\nA: 1\n"},
		{"#%gen 01\n\nA: 1\n", "#%gen 1\n\n#%gen 01\n\nA: 1\n"},
		{"#%gen 7\n \nA: 1\n", "#%gen 1\n\n#%gen 7\n \nA: 1\n"},
		{"\n#%gen 7\n\nA: 1\n", "#%gen 1\n\n\n#%gen 7\n\nA: 1\n"},
		{"#%gen 2147483649\n\nA: 1\n", "#%gen 1\n\n#%gen 2147483649\n\nA: 1\n"},
		{"#%gen 2\n\n#%gen 7\n\nA: 1\n", "#%gen 3\n\n#%gen 7\n\nA: 1\n"},
		{"#%gen 2\n\n#%gen 2147483648\n\nA: 1\n", "#%gen 3\n\n#%gen 2147483648\n\nA: 1\n"},
		{"#%gen 7\nA: 1\n" + deletion, "#%gen 1\n\n"},
		// Keys that begin with % begin no records.
		{"%amend 3: x\n%: y\n", "#%gen 1\n\n%amend 3: x\n%: y\n"},
	} {
		if fresh, err := compact.Fresh(c.text); fresh != c.fresh || err != nil {
			t.Errorf("%q: %q %v, not %q", c.text, fresh, err, c.fresh)
		}
		if n, err := compact.Needed(c.text); n != len(c.fresh) || err != nil {
			t.Errorf("%q: needed %d %v", c.text, n, err)
		}
		if n, err := compact.Saved(c.text); n != len(c.text)-len(c.fresh) || err != nil {
			t.Errorf("%q: saved %d %v", c.text, n, err)
		}
		hold(t, c.text)
	}
}

// P16.1: Saved is of the whole file, with its tail; below 0, if the fresh text is longer.
func TestSaved(t *testing.T) {
	for _, c := range []struct {
		text  string
		saved int
	}{
		{"", -9}, {"A: 1\n", -9}, {"#%gen 8\n\nA: 1\n", 0}, {"#%gen 9\n\nA: 1\n", -1},
		{"A: 1\n" + record, len(record) - len("#%gen 1\n\n\nB: 2\n")}, {"#%gen 1\n\nA: 1\n" + deletion, len(deletion) + 5},
		{"A: 1\n%am", 3 - 9}, {"A: 1\n%amend 10", 0}, {"A: 1\n%amend 10 ", 1}, {"A: 1\n" + deletion + "%amend 1", len(deletion) + 5 + 8 - 9},
	} {
		if n, err := compact.Saved(c.text); n != c.saved || err != nil {
			t.Errorf("%q: %d %v, not %d", c.text, n, err, c.saved)
		}
	}
}

// P16.1: which stanzas are touched.
func TestTouched(t *testing.T) {
	base := "# c\n\nA:1\n\nA: 2\n\nA: 3\n# in\n"
	for _, c := range []struct {
		batches [][]api.Edit
		want    []int
	}{
		{nil, nil},
		{[][]api.Edit{batch(replace(2, "A", "7"))}, []int{2}},
		// It is the bytes that are asked, not the edits.
		{[][]api.Edit{batch(replace(2, "A", "2"))}, nil},
		{[][]api.Edit{batch(replace(2, "A", "7")), batch(replace(2, "A", "2"))}, nil},
		{[][]api.Edit{batch(replace(1, "A", "1"))}, []int{1}},
		{[][]api.Edit{batch(replace(3, "A", "3"))}, []int{3}},
		{[][]api.Edit{batch(replace(3, "A", "3"), replace(1, "A", "1"), replace(2, "A", "2"))}, []int{1, 3}},
		// Stanzas that have gone aren't the list's; those that the base text hasn't are touched, whatever they say.
		{[][]api.Edit{batch(drop(2))}, nil},
		{[][]api.Edit{batch(drop(1), drop(2), drop(3))}, nil},
		{[][]api.Edit{batch(insert(0, "A", "2"))}, []int{4}},
		{[][]api.Edit{batch(drop(2), insert(1, "A", "2"))}, []int{4}},
		{[][]api.Edit{batch(insert(0, "B", ""), drop(4))}, nil},
		{[][]api.Edit{batch(insert(0, "B", "")), batch(replace(4, "C", "")), batch(drop(1))}, []int{4}},
		// A stanza that only another one stands ahead of, or behind, isn't touched.
		{[][]api.Edit{batch(insert(2, "B", ""), insert(1, "C", ""))}, []int{4, 5}},
		// Rising, though they stand otherwise.
		{[][]api.Edit{batch(insert(0, "B", ""), insert(0, "C", "")), batch(insert(1, "D", ""), replace(3, "E", "")), batch(insert(4, "F", ""), replace(1, "G", ""))}, []int{1, 3, 4, 5, 6, 7}},
	} {
		for _, head := range []string{"", "#%gen 12\n\n", "#%gen 2147483648\n\n"} {
			for _, tail := range []string{"", "%am"} {
				text := appended(t, head+base, c.batches...) + tail
				if ids, err := compact.Touched(text); !slices.Equal(ids, c.want) || err != nil {
					t.Errorf("%q: %v %v, not %v", text, ids, err, c.want)
				}
				hold(t, text)
			}
		}
	}
}

// P16.1: what is refused; beside an error there is nothing.
func TestRefused(t *testing.T) {
	end := "#%gen 2147483648\n\n"
	for _, c := range []struct{ text, err, touched string }{
		{"A: 1", "at 0 form", "at 0 form"},
		{"A: 1\nodd\n", "at 1 form", "at 1 form"},
		{"#%gen 3\n\nA: 1\nodd\n" + record, "at 1 form", "at 1 form"},
		{"A: " + x(1001) + "\n", "at 0 value", "at 0 value"},
		{strings.Repeat("A: 1\n", 41), "at 40 full", "at 40 full"},
		{strings.Repeat("A: 1\n\n", 401), "at 800 full", "at 800 full"},
		{"#" + x(59999) + "\n", "range", "range"},
		{"#" + x(120000), "range", "range"},
		{"A: 1\n%x\n", "at 0 corrupt", "at 0 corrupt"},
		{"A: 1\n" + strings.Replace(record, "B", "C", 1), "at 0 corrupt", "at 0 corrupt"},
		{"A: 1\n" + record + deletion + "x", "at 2 corrupt", "at 2 corrupt"},
		// Records that are as told, but that the list refuses.
		{deletion, "at 0 corrupt", "at 0 corrupt"},
		{"A: 1\n" + deletion + record + "%am", "at 1 corrupt", "at 1 corrupt"},
		{end + "A: 1\n", "range", "nil"},
		{end, "range", "nil"},
		{end + "A: 1\n" + record + "%", "range", "nil"},
		// A text's own error comes ahead of its generation's.
		{end + "A: 1\nodd\n", "at 1 form", "at 1 form"},
		{end + "A: 1\n" + deletion + deletion, "at 1 corrupt", "at 1 corrupt"},
		{end + "A: " + x(1001) + "\n", "at 0 value", "at 0 value"},
	} {
		if fresh, err := compact.Fresh(c.text); fresh != "" || word(err) != c.err {
			t.Errorf("%.50q: Fresh: %q %v", c.text, fresh, err)
		}
		if n, err := compact.Needed(c.text); n != 0 || word(err) != c.err {
			t.Errorf("%.50q: Needed: %d %v", c.text, n, err)
		}
		if n, err := compact.Saved(c.text); n != 0 || word(err) != c.err {
			t.Errorf("%.50q: Saved: %d %v", c.text, n, err)
		}
		if ids, err := compact.Touched(c.text); word(err) != c.touched || err != nil && len(ids) != 0 {
			t.Errorf("%.50q: Touched: %v %v", c.text, ids, err)
		}
		hold(t, c.text)
	}
}

// P16.1: errors are new: whoever changes one changes no other.
func TestErrorsAreNew(t *testing.T) {
	for range 2 {
		_, fresh := compact.Fresh("A: 1\nodd\n")
		_, needed := compact.Needed("A: 1\nodd\n")
		_, saved := compact.Saved("A: 1\nodd\n")
		_, touched := compact.Touched("A: 1\nodd\n")
		for _, err := range []error{fresh, needed, saved, touched} {
			if word(err) != "at 1 form" {
				t.Error(err)
			}
			if f, ok := err.(*api.Fault); ok {
				f.At, f.Err = 7, nil
			}
		}
	}
}

// full is a text of that head whose list's text has n bytes, of more than 59500: its base text has fewer.
func full(t *testing.T, head string, n int) string {
	t.Helper()
	return appended(t, head+"#"+x(59498)+"\n", batch(insert(0, "A", x(n-59500-len("A: \n\n")))))
}

// P16.1: a list's text of 60000 bytes is the longest one; the header comes ahead of that. The generation is asked first.
func TestLongestList(t *testing.T) {
	for _, head := range []string{"", "#%gen 1\n\n", "#%gen 2147483647\n\n", "#%gen 2147483648\n\n"} {
		for _, n := range []int{59600, 59980, 59990, 59999, 60000, 60001, 60400} {
			for _, tail := range []string{"", "%amend 3"} {
				want := "nil"
				switch {
				case head == "#%gen 2147483648\n\n":
					want = "range"
				case n > 60000:
					want = "full"
				}
				text := full(t, head, n) + tail
				if got := hold(t, text); got != want {
					t.Errorf("%q, %d: %s, not %s", head, n, got, want)
				}
				if ids, err := compact.Touched(text); !slices.Equal(ids, []int{1}) || err != nil {
					t.Errorf("%q, %d: touched %v %v", head, n, ids, err)
				}
			}
		}
	}
	for _, n := range []int{59999, 60000} {
		if needed, err := compact.Needed("#" + x(n-2) + "\n"); needed != n+9 || err != nil {
			t.Error(n, needed, err)
		}
	}
	// What has become too long may become short enough again.
	text := appended(t, full(t, "", 60400), batch(drop(1)))
	if fresh, err := compact.Fresh(text); err != nil || len(fresh) != 9+59500 {
		t.Error(len(fresh), err)
	}
	hold(t, text)
}

// P16.1, P16.2: a list of 400 stanzas all of which were touched, and a file of 120000 bytes.
func TestLargeFiles(t *testing.T) {
	text := strings.Repeat("A:1\n\n", 400)
	var all []int
	for id := 1; id <= 400; id += 40 {
		var edits []api.Edit
		for at := range 40 {
			edits = append(edits, replace(id+at, "A", "1"))
			all = append(all, id+at)
		}
		text = appended(t, text, edits)
	}
	if ids, err := compact.Touched(text); !slices.Equal(ids, all) || err != nil {
		t.Error(ids, err)
	}
	if got := hold(t, text); got != "nil" {
		t.Error(got)
	}
	// Each one goes, and comes again ahead of all: they stand from the last one on.
	for id := 1; id <= 400; id += 20 {
		var edits []api.Edit
		for at := range 20 {
			edits = append(edits, drop(id+at), insert(0, "A", "1"))
			all[id+at-1] += 400
		}
		text = appended(t, text, edits)
	}
	if ids, err := compact.Touched(text); !slices.Equal(ids, all) || err != nil {
		t.Error(ids, err)
	}
	if got := hold(t, text); got != "nil" {
		t.Error(got)
	}
	text = "#%gen 1\n\nA: 1\n\n#" + x(60000-8) + "\n"
	one := api.Edit{Kind: api.Replace, ID: 1, Fields: slices.Repeat(fields("A", x(1000)), 40)}
	text = appended(t, text, batch(one), batch(replace(1, "A", "")))
	text += "%amend 50000 00000000\n"
	for len(text) < 120000 {
		text += " " + x(998) + "\n"
	}
	text = text[:120000]
	if fresh, err := compact.Fresh(text); err != nil || fresh != "#%gen 2\n\nA:\n\n#"+x(60000-8)+"\n" {
		t.Error(len(fresh), err)
	}
	if got := hold(t, text); got != "nil" {
		t.Error(got)
	}
	if got := hold(t, text+"x"); got != "range" {
		t.Error(got)
	}
}

// grown hands over all texts of up to n of some pieces behind a beginning.
func grown(begin string, pieces []string, n int, hand func(text string)) {
	hand(begin)
	if n == 0 {
		return
	}
	for _, p := range pieces {
		grown(begin+p, pieces, n-1, hand)
	}
}

// P16.1, P16.2: all texts of up to five of some pieces, good and wrong ones.
func TestAllTexts(t *testing.T) {
	answers := map[string]int{}
	pieces := []string{"A: 1\n", "A:1\n", "\n", " \n", "# c\n", "#%gen 1\n\n", record, deletion, "%am", "odd\n"}
	grown("", pieces, 5, func(text string) {
		if !t.Failed() {
			answers[hold(t, text)]++
		}
	})
	for _, answer := range []string{"nil", "at 0 form", "at 1 form", "at 0 corrupt", "at 1 corrupt", "at 2 corrupt"} {
		if answers[answer] < 100 {
			t.Error(answer, answers)
		}
	}
}

// P16.1, P16.2: all files of some base texts with up to three of some batches, with headers and tails.
func TestAllFiles(t *testing.T) {
	bases := []string{"", "A: 1\n\nA: 1\n", "# c\n\nA:1\n\nB: 2\n", "\t\nA: 1\n# c\n\n#%gen 2\n\nA:1\n\n# c\n"}
	batches := [][]api.Edit{
		batch(drop(1)), batch(drop(2)), batch(drop(3)), batch(replace(1, "C", "3")), batch(replace(1, "A", "1")), batch(replace(2, "A", "1")),
		batch(insert(0, "D", "4")), batch(insert(1, "E", "5")), batch(insert(2, "F", ""), drop(2)), batch(insert(0, "G", ""), insert(3, "H", "")),
	}
	answers := map[string]int{}
	var grow func(text string, n int)
	grow = func(text string, n int) {
		for _, tail := range []string{"", "%amend 10 6662df79\n delete 1\n"} {
			answers[hold(t, text+tail)]++
		}
		for _, one := range batches[:len(batches)*min(n, 1)] {
			if !t.Failed() {
				grow(appended(t, text, one), n-1)
			}
		}
	}
	for _, base := range bases {
		for _, head := range []string{"", "#%gen 41\n\n", "#%gen 2147483648\n\n"} {
			grow(head+base, 3)
		}
	}
	for _, answer := range []string{"nil", "range", "at 0 corrupt", "at 1 corrupt", "at 2 corrupt"} {
		if answers[answer] < 100 {
			t.Error(answer, answers)
		}
	}
}

// P16.1, P16.2: files at random, and what is left of them when a byte is another one, or has gone.
func TestAnyFiles(t *testing.T) {
	answers := map[string]int{}
	for seed := range 2000 {
		r := rand.New(rand.NewPCG(uint64(seed), 16))
		text := anyFile(t, r)
		answers[hold(t, text)]++
		for range 5 {
			if n := len(text); n > 0 {
				at := r.IntN(n)
				answers[hold(t, text[:at]+string(" %#:A1\n\t.\xff"[r.IntN(10)])+text[at+1:])]++
				answers[hold(t, text[:at])]++
				answers[hold(t, text[:at]+text[at+1:])]++
			}
		}
		if t.Failed() {
			t.Fatal(seed)
		}
	}
	for _, answer := range []string{"nil", "range", "at 0 form", "at 0 corrupt", "at 1 corrupt"} {
		if answers[answer] < 100 {
			t.Error(answer, answers)
		}
	}
}

// P16.2: a comment ahead of the first stanza stays where it is, and what no edit touches stays as it is, through all compactions.
func TestThroughCompactions(t *testing.T) {
	text := "# top\n#more\n\nA:1\n# in\n\nB: x\n  y\n"
	for gen := 1; gen < 40; gen++ {
		r := rand.New(rand.NewPCG(uint64(gen), 162))
		for range r.IntN(4) {
			last := len(stanzas(told(text).live))
			text = appended(t, text, batch(insert(last, "N", x(r.IntN(9)))))
		}
		if got := hold(t, text); got != "nil" {
			t.Fatal(gen, got)
		}
		fresh, err := compact.Fresh(text)
		b := told(fresh).book
		if err != nil || b.Gen != gen || !strings.HasPrefix(b.Base, "# top\n#more\n\nA:1\n# in\n\nB: x\n  y\n") {
			t.Fatalf("%d: %q %v", gen, fresh, err)
		}
		text = fresh
	}
}

// P16.1: answers are new memory.
func TestAnswersAreNew(t *testing.T) {
	text := appended(t, "A: 1\n", batch(insert(0, "B", ""), insert(1, "C", "")), batch(replace(1, "D", "")))
	ids, err := compact.Touched(text)
	if err != nil || !slices.Equal(ids, []int{1, 2, 3}) {
		t.Fatal(ids, err)
	}
	clear(ids[:cap(ids)])
	if again, _ := compact.Touched(text); !slices.Equal(again, []int{1, 2, 3}) {
		t.Error(again)
	}
}
