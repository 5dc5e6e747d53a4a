package list_test

import (
	"math"
	"math/rand/v2"
	"slices"
	"strings"
	"testing"

	"stanzakeep/api"
	"stanzakeep/list"
	"stanzakeep/print"
	"stanzakeep/stanza"
)

// many is a text of n stanzas.
func many(n int) string {
	return strings.Repeat("A: 1\n\n", n)
}

// P7.1: the chapter's example, and others, written out.
func TestWrittenOut(t *testing.T) {
	for _, c := range []struct {
		text string
		acts []act
		want string
		ids  []int
		next int
	}{
		{"A: 1\n", []act{{'i', 0, fields("B", "2")}}, "B: 2\n\nA: 1\n", []int{2, 1}, 3},
		{"", nil, "", nil, 1},
		{"", []act{{'i', 0, fields("A", "1")}, {'i', 1, fields("B", "2")}, {'i', 1, fields("C", "3")}}, "A: 1\n\nC: 3\n\nB: 2\n", []int{1, 3, 2}, 4},
		{"A: 1\n", []act{{'d', 1, nil}}, "", nil, 2},
		{"A: 1\n", []act{{'d', 1, nil}, {'i', 0, fields("B", "")}}, "B:\n", []int{2}, 3},
		{"A: 1\n", []act{{'i', 1, fields("B", "")}, {'d', 2, nil}, {'i', 1, fields("C", "")}}, "A: 1\n\nC:\n", []int{1, 3}, 4},
		{"# a\n", []act{{'i', 0, fields("A", "1")}}, "A: 1\n\n# a\n", []int{1}, 2},
		{"# a\n", []act{{'i', 0, fields("A", "1")}, {'d', 1, nil}}, "# a\n", nil, 2},
		{"\t\n", []act{{'i', 0, fields("A", "1")}}, "A: 1\n\t\n", []int{1}, 2},
		{"A: 1\n\t\n\n# a\n\nB: 2\n", []act{{'i', 1, fields("C", "\n.")}}, "A: 1\n\nC:\n ..\n\t\n\n# a\n\nB: 2\n", []int{1, 3, 2}, 4},
		{"A: 1\n\n\nB: 2\n\n# a\n", []act{{'d', 2, nil}}, "A: 1\n\n\n\n# a\n", []int{1}, 3},
		{"A:1\n m\n# in\n\nB:  2\n#\n", []act{{'r', 2, fields("B", " 2")}}, "A:1\n m\n# in\n\nB:  2\n", []int{1, 2}, 3},
		{"A:1\n# in\n", []act{{'r', 1, fields("C", "3", "C", "3")}, {'r', 1, fields("A", "1")}}, "A: 1\n", []int{1}, 2},
	} {
		l, _ := of(t, c.text)
		for _, a := range c.acts {
			if _, err := a.doTo(l); err != nil {
				t.Errorf("%q %c %d: %v", c.text, a.kind, a.id, err)
			}
		}
		var ids []int
		for _, s := range l.Stanzas() {
			ids = append(ids, s.ID)
		}
		if l.Text() != c.want || !slices.Equal(ids, c.ids) || l.Next() != c.next || l.Len() != len(c.ids) {
			t.Errorf("%q: %q %v %d %d", c.text, l.Text(), ids, l.Next(), l.Len())
		}
	}
}

// P7.1: Of answers Parse's error, with its place, and then no list.
func TestOf(t *testing.T) {
	for _, c := range []struct {
		text string
		at   int // -1: a bare error
		want error
	}{
		{"abc\n", 0, api.ErrForm},
		{"A: 1", 0, api.ErrForm},
		{"A: 1\n\n m\n", 2, api.ErrForm},
		{"A: 1\nB: " + x(1001) + "\n", 1, api.ErrValue},
		{many(400) + "A: 1\n", 800, api.ErrFull},
		{strings.Repeat("A:\n", 41), 40, api.ErrFull},
		{strings.Repeat("\n", 60001), -1, api.ErrRange},
		{x(60001), -1, api.ErrRange},
	} {
		l, err := list.Of(c.text)
		want := c.want
		if c.at >= 0 {
			want = &api.Fault{At: c.at, Err: c.want}
		}
		if l != nil || !sameError(err, want) {
			t.Errorf("%.50q: %v %v, not %v at %d", c.text, l, err, c.want, c.at)
		}
	}
	for _, text := range []string{
		"", "\n", "# a\n", "A: 1\n", "\n\n# a\n\n# b\n\t\nA:1\n m\n#\nA:\n\nB: 2\n\n",
		many(400), strings.Repeat("A:\n", 40), strings.Repeat("\n", 60000),
	} {
		l, p := of(t, text)
		hold(t, l, p)
		if l.Text() != text {
			t.Errorf("%.50q: %.50q", text, l.Text())
		}
	}
}

// P7.1: of several errors the one comes that the call's sentence names first.
func TestRefusals(t *testing.T) {
	key := &api.Fault{At: 1, Err: api.ErrKey}
	value := &api.Fault{At: 0, Err: api.ErrValue}
	wrong := []struct {
		fields []api.Field
		want   error
	}{
		{nil, api.ErrForm},
		{fields("A", "", "B:", ""), key},
		{fields("A", x(1001), "", ""), value},
		{slices.Repeat(fields("", x(1001)), 41), api.ErrFull},
	}
	for _, text := range []string{"", "\n# a\n\n", "A: 1\n", many(399), many(400)} {
		l, p := of(t, text)
		for _, id := range []int{math.MinInt, -1, 0, 1, l.Len(), l.Len() + 1, math.MaxInt} {
			_, there := l.Get(id)
			for _, w := range wrong {
				want := w.want
				if !there {
					want = api.ErrNone
				}
				if err := l.Replace(id, w.fields...); !sameError(err, want) {
					t.Errorf("%.20q Replace %d: %v, not %v", text, id, err, want)
				}
				if id == 0 {
					want = w.want
				}
				if got, err := l.Insert(id, w.fields...); got != 0 || !sameError(err, want) {
					t.Errorf("%.20q Insert %d: %d %v, not %v", text, id, got, err, want)
				}
			}
			if !there {
				if err := l.Delete(id); err != api.ErrNone {
					t.Errorf("%.20q Delete %d: %v", text, id, err)
				}
				if err := l.Replace(id, fields("A", "")...); err != api.ErrNone {
					t.Errorf("%.20q Replace %d: %v", text, id, err)
				}
			}
		}
		hold(t, l, p)
	}
}

// P7.1: a list takes 400 stanzas, and one more when one has gone; what was refused has used up no number.
func TestFull(t *testing.T) {
	l, p := of(t, many(398))
	for _, a := range []act{
		{'i', 398, fields("B", "")},
		{'i', 0, fields("B", "")},
		{'i', 0, fields("B", "")},
		{'i', 7, fields("B", "")},
		{'i', 401, fields("B", "")},
		{'r', 400, fields("C", "")},
		{'d', 1, nil},
		{'i', 1, fields("B", "")},
		{'i', 400, fields("B", "")},
		{'i', 400, fields("B", "")},
	} {
		holdAct(t, l, p, a)
	}
	if l.Len() != 400 || l.Next() != 402 || l.Place(401) != 1 {
		t.Error(l.Len(), l.Next(), l.Place(401))
	}
	if _, err := l.Insert(0, fields("B", "")...); err != api.ErrFull {
		t.Error(err)
	}
}

// P7.1: a nil list holds nothing and takes nothing, whatever it is given.
func TestNil(t *testing.T) {
	var l *list.List
	for _, id := range []int{math.MinInt, -1, 0, 1, math.MaxInt} {
		for _, list := range [][]api.Field{nil, fields("A", "1"), fields("", "")} {
			for _, kind := range []byte("rdi") {
				holdAct(t, l, nil, act{kind, id, list})
			}
		}
	}
	if l.Copy() != nil {
		t.Error("Copy")
	}
}

// P7.1, P7.3: of some texts all sequences of some acts, each on a copy: that one is as told, and the list that it is a copy of is as it was.
func TestAllShort(t *testing.T) {
	var acts []act
	for _, kind := range []byte("rdi") {
		for id := range 5 {
			acts = append(acts, act{kind, id, fields("C", "3\n")})
		}
	}
	acts = append(acts, act{'r', 1, nil}, act{'r', 2, fields("A", "1", "", "")}, act{'i', 0, fields(":", "")}, act{'i', 2, nil}, act{'i', -1, fields("A", "")})
	for _, text := range []string{"", "\n", "# a\n", "A:1\n", "A:1\n# in\n\nB: 2\n", "# a\n\n\nA: 1\n\n# b\n\nB:\n .\n \n\n"} {
		l, p := of(t, text)
		walk(t, l, p, acts, 3)
	}
}

// walk does each act on a copy, and goes on from there, some steps deep.
func walk(t *testing.T, l *list.List, p *plainList, acts []act, steps int) {
	t.Helper()
	if steps == 0 {
		return
	}
	for _, a := range acts {
		other, plain := l.Copy(), p.copy()
		hold(t, other, plain)
		holdAct(t, other, plain, a)
		walk(t, other, plain, acts, steps-1)
		if t.Failed() {
			t.Fatalf("of %v: %c %d", p.records(), a.kind, a.id)
		}
	}
	hold(t, l, p)
}

// randomFields is fields, mostly good ones, whose values are of what folding has to do with.
func randomFields(random *rand.Rand) []api.Field {
	var list []api.Field
	for range random.IntN(12) % 4 {
		value := ""
		for range random.IntN(8) {
			value += []string{"\n", " ", "\t", ".", "#", ":", "x", "\xff"}[random.IntN(8)]
		}
		list = append(list, api.Field{Key: []string{"A", "B c", "x ", "-#", "A", "B", "C", "#"}[random.IntN(8)], Value: value})
	}
	return list
}

// randomText is a good text of some lines.
func randomText(random *rand.Rand) string {
	for {
		text := ""
		for range random.IntN(20) {
			text += []string{"\n", "\n", " \t\n", "# c\n", "A: 1\n", "B:2\n", " more\n", "\t.\n"}[random.IntN(8)]
		}
		if stanza.Good(text) {
			return text
		}
	}
}

// P7.1, P7.2: long sequences of acts at random.
func TestLong(t *testing.T) {
	random := rand.New(rand.NewPCG(7, 1))
	for range 300 {
		l, p := of(t, randomText(random))
		raws := map[int]string{}
		for _, id := range p.ids() {
			raws[id], _ = l.Raw(id)
		}
		for range 40 {
			a := act{"rdiii"[random.IntN(5)], random.IntN(p.next + 1), randomFields(random)}
			holdAct(t, l, p, a)
			if a.kind == 'r' && print.Check(a.fields...) == nil {
				delete(raws, a.id)
			}
			holdText(t, l, raws)
		}
	}
}

// holdText holds the list's text: it is parsed to the stanzas, and the bytes of those that were never replaced stand in it.
func holdText(t *testing.T, l *list.List, raws map[int]string) {
	t.Helper()
	if t.Failed() {
		return
	}
	stanzas := l.Stanzas()
	items, err := stanza.Parse(l.Text())
	if err != nil {
		t.Errorf("%.100q: %v", l.Text(), err)
		return
	}
	items = slices.DeleteFunc(items, func(item api.Item) bool { return item.Kind != api.Record })
	if len(items) != len(stanzas) {
		t.Errorf("%d stanzas parsed, not %d", len(items), len(stanzas))
		return
	}
	for i, s := range stanzas {
		if !slices.Equal(items[i].Fields, s.Fields) {
			t.Errorf("%d: %q, not %q", s.ID, items[i].Fields, s.Fields)
		}
		if raw, ok := raws[s.ID]; ok && items[i].Raw != raw {
			t.Errorf("%d: %q, not %q", s.ID, items[i].Raw, raw)
		}
		if raw, _ := l.Raw(s.ID); items[i].Raw != raw {
			t.Errorf("%d: %q, but Raw %q", s.ID, items[i].Raw, raw)
		}
	}
}

// P7.2: so it is up to 60000 bytes; a longer text is told, too.
func TestLongTexts(t *testing.T) {
	l, p := of(t, "# a\n\nA:1\n# in\n")
	last := 1
	for range 59 {
		last, _ = l.Insert(last, fields("A", x(1000))...)
		p.do(act{'i', last - 1, fields("A", x(1000))})
	}
	rest := 60000 - len(l.Text()) - len("\nA: \n")
	holdAct(t, l, p, act{'i', 1, fields("A", x(rest))})
	if len(l.Text()) != 60000 {
		t.Fatal(len(l.Text()))
	}
	holdText(t, l, map[int]string{1: "A:1\n# in\n"})
	holdAct(t, l, p, act{'i', 0, slices.Repeat(fields("A", x(1000)), 40)})
	if stanza.Good(l.Text()) || len(l.Text()) != 60000+40*1004+1 {
		t.Error(len(l.Text()))
	}
	other, err := list.Of(many(400))
	for id := range 400 {
		if err == nil {
			err = other.Replace(id+1, slices.Repeat(fields(strings.Repeat("k", 32), x(1000)), 40)...)
		}
	}
	if text := other.Text(); err != nil || len(text) != 400*(40*1035+1) {
		t.Error(len(text), err)
	}
}

// P7.3: what is handed in stays as it was, with its spare room, and nothing of it is kept.
func TestArgumentsStay(t *testing.T) {
	l, p := of(t, "A: 1\n")
	given := fields("B", "2", "C", "3", "", "wrong", "behind", "")
	for n := range len(given) {
		l.Replace(1, given[:n]...)
		l.Insert(1, given[:n]...)
	}
	if !slices.Equal(given, fields("B", "2", "C", "3", "", "wrong", "behind", "")) {
		t.Errorf("%q", given)
	}
	clear(given)
	for n := range 4 {
		p.do(act{'r', 1, fields("B", "2", "C", "3", "", "")[:n]})
		p.do(act{'i', 1, fields("B", "2", "C", "3", "", "")[:n]})
	}
	hold(t, l, p)
}

// spoil changes fields, and what is in their spare room.
func spoil(list []api.Field) {
	clear(append(list, fields("X", "", "Y", "")...))
	clear(list[:cap(list)])
}

// P7.3: an answer is new: whoever changes one changes nothing of the list, nor of another answer, nor of another list within it.
func TestAnswersAreNew(t *testing.T) {
	l, p := of(t, "# a\n\nA: 1\nB: 2\n\nA: 1\n")
	holdAct(t, l, p, act{'i', 1, fields("C", "3")})
	holdAct(t, l, p, act{'r', 2, fields("D", "4", "E", "5")})
	stanzas, items := l.Stanzas(), l.Items()
	for i, s := range stanzas {
		for _, later := range stanzas[i:] {
			if want := p.items[p.where(later.ID)].item.Fields; !slices.Equal(later.Fields, want) {
				t.Errorf("%d: %q", later.ID, later.Fields)
			}
		}
		spoil(s.Fields)
	}
	for i, item := range items {
		for k, later := range items[i:] {
			if !sameItem(later, p.items[i+k].item) {
				t.Errorf("%d: %v", i+k, later)
			}
		}
		spoil(item.Fields)
	}
	clear(append(stanzas, api.Stanza{ID: 9}))
	clear(append(items, api.Item{Kind: 9}))
	clear(items[:cap(items)])
	clear(stanzas[:cap(stanzas)])
	for _, id := range p.ids() {
		got, _ := l.Get(id)
		again, _ := l.Get(id)
		spoil(got)
		if !slices.Equal(again, p.items[p.where(id)].item.Fields) {
			t.Errorf("%d: %q", id, again)
		}
	}
	hold(t, l, p)
}

// P7.3: a list and its copy are apart, whichever one is edited, and also if both are by turns.
func TestCopiesAreApart(t *testing.T) {
	random := rand.New(rand.NewPCG(7, 3))
	for range 200 {
		l, p := of(t, randomText(random))
		lists, plains := []*list.List{l}, []*plainList{p}
		for range 30 {
			i := random.IntN(len(lists))
			if random.IntN(6) == 0 {
				lists, plains = append(lists, lists[i].Copy()), append(plains, plains[i].copy())
			}
			holdAct(t, lists[i], plains[i], act{"rdi"[random.IntN(3)], random.IntN(plains[i].next + 1), randomFields(random)})
			for k := range lists {
				hold(t, lists[k], plains[k])
			}
		}
	}
}
