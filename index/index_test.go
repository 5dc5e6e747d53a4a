package index_test

import (
	"math"
	"math/rand/v2"
	"slices"
	"strconv"
	"strings"
	"testing"

	"stanzakeep/api"
	"stanzakeep/index"
	"stanzakeep/list"
)

// P8.1: the chapter's example, and others, written out.
func TestWrittenOut(t *testing.T) {
	x := index.New()
	put(t, x, 1, "A", "x", "A", "y")
	put(t, x, 2, "A", "x")
	put(t, x, 10, "B", "x", "A", "z", "B", "x", "A", "z")
	put(t, x, 9, "", "", "A", "")
	put(t, x, math.MaxInt)
	for _, c := range []struct {
		name      string
		got, want []int
	}{
		{"With A", x.With("A"), []int{1, 2, 9, 10}},
		{"With B", x.With("B"), []int{10}},
		{"With the empty key", x.With(""), []int{9}},
		{"With a", x.With("a"), nil},
		{"With x", x.With("x"), nil},
		{"Equal A x", x.Equal("A", "x"), []int{1, 2}},
		{"Equal A y", x.Equal("A", "y"), []int{1}},
		{"Equal A, the empty value", x.Equal("A", ""), []int{9}},
		{"Equal B y", x.Equal("B", "y"), nil},
		{"Equal x A", x.Equal("x", "A"), nil},
		{"Between A x y", x.Between("A", "x", "y"), []int{1, 2}},
		{"Between A y z", x.Between("A", "y", "z"), []int{1, 10}},
		{"Between A y y", x.Between("A", "y", "y"), []int{1}},
		{"Between A xx yy", x.Between("A", "xx", "yy"), []int{1}},
		{"Between A y x", x.Between("A", "y", "x"), nil},
		{"Between A of all", x.Between("A", "", "\xff"), []int{1, 2, 9, 10}},
		{"Between A, the empty value", x.Between("A", "", ""), []int{9}},
		{"Between B y z", x.Between("B", "y", "z"), nil},
		{"Count", []int{x.Count("A", "x"), x.Count("A", "z"), x.Count("B", "x"), x.Count("B", "z"), x.Count("z", "A")}, []int{2, 2, 2, 0, 0}},
		{"Len", []int{x.Len()}, []int{5}},
	} {
		if !slices.Equal(c.got, c.want) {
			t.Errorf("%s: %v, not %v", c.name, c.got, c.want)
		}
	}
	if got := x.Keys(); !slices.Equal(got, []string{"", "A", "B"}) {
		t.Errorf("Keys: %q", got)
	}
	if got := x.Values("A"); !slices.Equal(got, []string{"", "x", "y", "z"}) {
		t.Errorf("Values: %q", got)
	}
	if got := x.Values("C"); len(got) != 0 {
		t.Errorf("Values: %q", got)
	}
}

// put is a Put that isn't refused, of these keys and values by turns.
func put(t *testing.T, x *index.Index, id int, said ...string) {
	t.Helper()
	if err := x.Put(id, fields(said...)...); err != nil {
		t.Errorf("Put %d: %v", id, err)
	}
}

// P8.1: texts rise by their bytes, numbers by their amount.
func TestRising(t *testing.T) {
	rising := []string{"", "\x00", "\t", "\n", " ", "#", "10", "9", "A", "A ", "AB", "B", "Z", "a", "z", "~", "é", "日", "\xff", "\xff\x00"}
	x := index.New()
	var ids []int
	for i := range rising {
		// Neither from the first one on, nor from the last one.
		i = i * 7 % len(rising)
		ids = append(ids, i*i*i+1)
		put(t, x, i*i*i+1, rising[i], "", "K", rising[i])
	}
	slices.Sort(ids)
	if got := x.With("K"); !slices.Equal(got, ids) {
		t.Errorf("With: %v", got)
	}
	if got := x.Values("K"); !slices.Equal(got, rising) {
		t.Errorf("Values: %q", got)
	}
	keys := slices.Insert(slices.Clone(rising), slices.Index(rising, "Z"), "K")
	if got := x.Keys(); !slices.Equal(got, keys) {
		t.Errorf("Keys: %q", got)
	}
	for lo := range rising {
		for hi := range rising {
			got := x.Between("K", rising[lo], rising[hi])
			if want := ids[lo:max(lo, hi+1)]; !slices.Equal(got, want) {
				t.Errorf("Between %q %q: %v, not %v", rising[lo], rising[hi], got, want)
			}
		}
	}
}

// P8.1: Put of a stanza that is known takes all from it that it had, and Drop likewise; none of it is shown any more.
func TestNothingStays(t *testing.T) {
	x := index.New()
	put(t, x, 1, "A", "x", "B", "y", "A", "x")
	put(t, x, 2, "A", "x")
	put(t, x, 1, "C", "z")
	if got := shown(x); got != `2;"A"[2]"x"[2]1[2];"C"[1]"z"[1]1[1];` {
		t.Error(got)
	}
	put(t, x, 1)
	if got := shown(x); got != `2;"A"[2]"x"[2]1[2];` {
		t.Error(got)
	}
	if !x.Drop(1) || x.Drop(1) || x.Len() != 1 {
		t.Error("Drop 1")
	}
	if !x.Drop(2) || x.Drop(2) {
		t.Error("Drop 2")
	}
	if got := shown(x); got != "0;" {
		t.Error(got)
	}
	put(t, x, 2, "A", "y")
	if got := shown(x); got != `1;"A"[2]"y"[2]1[2];` {
		t.Error(got)
	}
}

// P8.1: a number below 1 is refused, and nothing has changed; the greatest one is taken.
func TestNumbers(t *testing.T) {
	x, p := index.New(), &plainIndex{}
	for range 2 {
		for _, id := range noNumbers() {
			for _, list := range [][]api.Field{nil, fields("A", "x"), fields("", "")} {
				holdAct(t, x, p, act{'p', id, list})
				holdAct(t, x, p, act{'d', id, nil})
				hold(t, x, p, keyOrValue(), []string{"", "x"})
			}
		}
		for _, id := range []int{1, math.MaxInt, 1 << 32, math.MaxInt - 1, 401} {
			holdAct(t, x, p, act{'p', id, fields("A", "x")})
			hold(t, x, p, keyOrValue(), []string{"", "x"})
		}
	}
	if got := x.With("A"); !slices.Equal(got, []int{1, 401, 1 << 32, math.MaxInt - 1, math.MaxInt}) {
		t.Error(got)
	}
}

// P8.1: a nil index knows none and takes none, whatever it is given.
func TestNil(t *testing.T) {
	var x *index.Index
	for _, id := range append(noNumbers(), 1, math.MaxInt) {
		for _, list := range [][]api.Field{nil, fields("A", "x"), fields("", "")} {
			holdAct(t, x, nil, act{'p', id, list})
			holdAct(t, x, nil, act{'d', id, nil})
			hold(t, x, nil, keyOrValue(), keyOrValue())
		}
	}
}

// P8.1: fields need not be good ones, nor few, nor stanzas.
func TestNoLimits(t *testing.T) {
	x, p := index.New(), &plainIndex{}
	long := strings.Repeat("k", 33)
	wrong := fields("", "", ":", "x", " A", "\xff", "#", "", "a\nb", "c\nd", long, strings.Repeat("v", 1001))
	for id := range 500 {
		list := slices.Repeat(wrong[id%len(wrong):], 1+id%20)
		holdAct(t, x, p, act{'p', id + 1, list})
	}
	keys := []string{"", ":", " A", "#", "a\nb", "a", long, long[1:]}
	values := []string{"", "x", "\xff", "c\nd", strings.Repeat("v", 1000), strings.Repeat("v", 1001)}
	hold(t, x, p, keys, values)
	for id := range 500 {
		holdAct(t, x, p, act{'d', 500 - id, nil})
	}
	hold(t, x, p, keys, values)
}

// P8.1: all sequences of some acts.
func TestAllShort(t *testing.T) {
	acts := []act{
		{'p', 1, nil},
		{'p', 1, fields("A", "x", "A", "y")},
		{'p', 1, fields("A", "x", "B", "x", "A", "x")},
		{'p', 2, fields("A", "x")},
		{'p', 2, fields("", "", "B", "x")},
		{'p', 3, fields("B", "y", "A", "xy")},
		{'p', 0, fields("A", "x")},
		{'d', 0, nil},
		{'d', 1, nil},
		{'d', 2, nil},
		{'d', 3, nil},
	}
	const steps = 4
	sequences := 1
	for range steps {
		sequences *= len(acts)
	}
	for sequence := range sequences {
		x, p := index.New(), &plainIndex{}
		for range steps {
			holdAct(t, x, p, acts[sequence%len(acts)])
			sequence /= len(acts)
		}
		hold(t, x, p, []string{"", "A", "B", "x"}, []string{"", "x", "xy", "y"})
	}
}

// randomFields is fields of a few keys and values.
func randomFields(random *rand.Rand, from []string) []api.Field {
	var list []api.Field
	for range random.IntN(6) {
		list = append(list, api.Field{Key: from[random.IntN(len(from))], Value: from[random.IntN(len(from))]})
	}
	return list
}

// P8.1: long sequences of acts at random.
func TestLong(t *testing.T) {
	random := rand.New(rand.NewPCG(8, 1))
	for range 15 {
		x, p := index.New(), &plainIndex{}
		for range 40 {
			a := act{"ppd"[random.IntN(3)], random.IntN(16) - 1, randomFields(random, keyOrValue())}
			holdAct(t, x, p, a)
			hold(t, x, p, keyOrValue(), keyOrValue())
		}
	}
}

// P8.1: what is answered hangs on what is known alone: not on when it was told, nor on what was known before, nor on how often it is asked.
func TestOrder(t *testing.T) {
	random := rand.New(rand.NewPCG(8, 2))
	for range 30 {
		x, y := index.New(), index.New()
		told := make([][]api.Field, 40)
		for i := range told {
			told[i] = randomFields(random, keyOrValue())
			x.Put(i+1, told[i]...)
			y.Put(i+1+random.IntN(5), randomFields(random, keyOrValue())...)
		}
		for _, i := range random.Perm(50) {
			y.Drop(i + 1)
			if i < len(told) {
				slices.Reverse(told[i])
				y.Put(i+1, told[i]...)
			}
		}
		for range 10 {
			same(t, y, x)
		}
	}
}

// P8.1: Of is an index of all stanzas of a list, with their numbers, and no other items; of nil, none.
func TestOf(t *testing.T) {
	for _, text := range []string{
		"", "\n", "# A: 1\n", "A: 1\n", "# a\n\nA:1\n m\n# B: 2\nA: 1\nA:1\n m\n\n\nB:\n\n# b\n",
		strings.Repeat("A: 1\nA:\n\n", 400),
	} {
		l, p := of(t, text), &plainIndex{}
		for _, s := range l.Stanzas() {
			p.put(s.ID, s.Fields)
		}
		hold(t, index.Of(l), p, []string{"", "A", "B", "# A"}, []string{"", "1", "1\nm", "2", "A"})
	}
	x := index.Of(nil)
	if x == nil {
		t.Fatal("nil")
	}
	hold(t, x, &plainIndex{}, keyOrValue(), keyOrValue())
	put(t, x, 7, "A", "x")
	if got := shown(x); got != `1;"A"[7]"x"[7]1[7];` {
		t.Error(got)
	}
	l := of(t, "A: 1\n\nB: 2\n\nA: 3\n")
	l.Delete(2)
	l.Insert(0, fields("B", "4")...)
	if got := shown(index.Of(l)); got != `3;"A"[1 3]"1"[1]1[1]"3"[3]1[1 3];"B"[4]"4"[4]1[4];` {
		t.Error(got)
	}
}

// of is a text's list.
func of(t *testing.T, text string) *list.List {
	t.Helper()
	l, err := list.Of(text)
	if err != nil {
		t.Fatalf("%q: %v", text, err)
	}
	return l
}

// edit does an edit at random on a list, and tells an index of it, if it was done.
func edit(random *rand.Rand, l *list.List, x *index.Index) {
	id := random.IntN(l.Next() + 1)
	list := randomFields(random, []string{"A", "B", "B c", "x", "1", "10", "9", "", "a\nb"})
	switch random.IntN(4) {
	case 0:
		if l.Delete(id) == nil {
			x.Drop(id)
		}
	case 1:
		if l.Replace(id, list...) == nil {
			x.Put(id, list...)
		}
	default:
		if inserted, err := l.Insert(id, list...); err == nil {
			x.Put(inserted, list...)
		}
	}
}

// P8.2: an index that is told of each edit of a list is that of the list.
func TestToldOfEdits(t *testing.T) {
	random := rand.New(rand.NewPCG(8, 3))
	for _, text := range []string{"", "# a\n\n", "A: 1\nA: 1\n\nB: x\n", strings.Repeat("A: 1\nB:\n\n", 398)} {
		for range 4 {
			l := of(t, text)
			x := index.Of(l)
			for range 80 {
				edit(random, l, x)
				same(t, x, index.Of(l))
			}
		}
	}
}

// P8.2: so it is of a list with 400 stanzas of 40 fields each, till the last one has gone.
func TestToldOfMany(t *testing.T) {
	l, x := of(t, ""), index.New()
	for i := range 400 {
		var list []api.Field
		for k := range 40 {
			list = append(list, api.Field{Key: "K" + strconv.Itoa(k), Value: strconv.Itoa(i * k % 7)})
		}
		id, err := l.Insert(i, list...)
		if err != nil {
			t.Fatal(err)
		}
		x.Put(id, list...)
	}
	same(t, x, index.Of(l))
	for id := range 401 {
		if l.Delete(id) == nil {
			x.Drop(id)
		}
		if id%100 == 50 {
			same(t, x, index.Of(l))
		}
	}
	if got := shown(x); got != "0;" {
		t.Error(got)
	}
}

// P8.3: what is handed in stays as it was, with its spare room, and nothing of it is kept.
func TestArgumentsStay(t *testing.T) {
	given := fields("B", "2", "A", "1", "A", "1", "behind", "")
	x, p := index.New(), &plainIndex{}
	for n := range len(given) {
		holdAct(t, x, p, act{'p', n + 1, given[:n]})
		holdAct(t, x, p, act{'p', 9, given[:n]})
		holdAct(t, x, p, act{'p', 0, given[:n]})
	}
	if !slices.Equal(given, fields("B", "2", "A", "1", "A", "1", "behind", "")) {
		t.Errorf("%q", given)
	}
	clear(given)
	hold(t, x, p, []string{"", "A", "B", "behind"}, []string{"", "1", "2"})
	l := of(t, "# a\n\nA: 1\n\nB:  2\n")
	text, before := l.Text(), l.Stanzas()
	x = index.Of(l)
	want := shown(x)
	x.Put(1, fields("C", "3")...)
	x.Drop(2)
	if l.Text() != text || !slices.EqualFunc(l.Stanzas(), before, sameStanza) {
		t.Errorf("%q", l.Text())
	}
	x = index.Of(l)
	l.Replace(1, fields("C", "3")...)
	l.Delete(2)
	if got := shown(x); got != want {
		t.Error(got)
	}
}

// sameStanza tells whether two stanzas are the same.
func sameStanza(a, b api.Stanza) bool {
	return a.ID == b.ID && slices.Equal(a.Fields, b.Fields)
}

// P8.3: an answer is new: whoever changes one, or what is in its spare room, changes nothing of the index, nor of another answer.
func TestAnswersAreNew(t *testing.T) {
	x, p := index.New(), &plainIndex{}
	for id := range 20 {
		holdAct(t, x, p, act{'p', id + 1, fields("A", "x", "B", strconv.Itoa(id%3), "A", strconv.Itoa(id%4))})
	}
	numbers := func() [][]int {
		return [][]int{x.With("A"), x.Equal("A", "x"), x.Between("A", "0", "z"), x.With("A"), x.Equal("A", "x"), x.Between("A", "0", "z")}
	}
	texts := func() [][]string {
		return [][]string{x.Keys(), x.Values("A"), x.Values("B"), x.Keys(), x.Values("A"), x.Values("B")}
	}
	spoilOne(t, numbers(), numbers(), -1)
	spoilOne(t, texts(), texts(), "spoilt")
	hold(t, x, p, []string{"A", "B", "spoilt", ""}, []string{"0", "1", "2", "3", "x", "spoilt", ""})
}

// spoilOne changes one answer after the other, with its spare room; the later ones must be as they are wanted.
func spoilOne[T comparable](t *testing.T, answers, want [][]T, with T) {
	t.Helper()
	for i, answer := range answers {
		if !slices.Equal(answer, want[i]) {
			t.Errorf("%d: %v, not %v", i, answer, want[i])
		}
		for k := range answer[:cap(answer)] {
			answer[:cap(answer)][k] = with
		}
	}
}

// P8.3: two indexes of one list are apart.
func TestApart(t *testing.T) {
	l := of(t, "A: 1\nB: 2\n\nA: 1\n")
	x, y := index.Of(l), index.Of(l)
	want := shown(y)
	x.Put(1, fields("C", "3")...)
	x.Drop(2)
	x.Put(3, fields("A", "1", "B", "2")...)
	if got := shown(y); got != want {
		t.Error(got)
	}
	if got := shown(index.New()); got != "0;" {
		t.Error(got)
	}
}
