package print_test

import (
	"errors"
	"math/rand/v2"
	"slices"
	"strings"
	"testing"

	"stanzakeep/api"
	"stanzakeep/print"
	"stanzakeep/stanza"
)

// The chapter's words in the plainest way there is: the tests hold the calls against these.

// plainField is what is wrong with a field: nil, ErrKey or ErrValue.
func plainField(f api.Field) error {
	k := f.Key
	switch {
	case len(k) < 1 || len(k) > 32 || strings.ContainsAny(k, ":\n") || strings.ContainsAny(k[:1], " \t#"):
		return api.ErrKey
	case len(f.Value) > 1000:
		return api.ErrValue
	}
	return nil
}

// plainCheck is what is wrong with fields, and the field that is wrong, or -1.
func plainCheck(fields []api.Field) (int, error) {
	if len(fields) == 0 {
		return -1, api.ErrForm
	}
	if len(fields) > 40 {
		return -1, api.ErrFull
	}
	for i, f := range fields {
		if err := plainField(f); err != nil {
			return i, err
		}
	}
	return -1, nil
}

// plainStanza is the text of good fields.
func plainStanza(fields []api.Field) string {
	text := ""
	for _, f := range fields {
		text += f.Key + ":"
		for i, line := range strings.Split(f.Value, "\n") {
			switch {
			case i == 0 && line != "":
				text += " " + line
			case i > 0 && (strings.Trim(line, " \t") == "" || line[0] == '.'):
				text += "\n ." + line
			case i > 0:
				text += "\n " + line
			}
		}
		text += "\n"
	}
	return text
}

// plainText is a list's text, or what is wrong with its first stanza that is wrong, and at which field.
func plainText(list [][]api.Field) (string, int, error) {
	text := ""
	for i, fields := range list {
		if at, err := plainCheck(fields); err != nil {
			return "", at, err
		}
		if i > 0 {
			text += "\n"
		}
		text += plainStanza(fields)
	}
	return text, -1, nil
}

// plainApart is items, put apart.
func plainApart(items []api.Item) []api.Item {
	var apart []api.Item
	blankBefore := true
	for _, item := range items {
		if !blankBefore && item.Kind != api.Blank {
			apart = append(apart, api.Item{Kind: api.Blank, Raw: "\n"})
		}
		apart = append(apart, item)
		blankBefore = item.Kind == api.Blank
	}
	return apart
}

// plainRender is the bytes of items, put apart.
func plainRender(items []api.Item) string {
	text := ""
	for _, item := range plainApart(items) {
		text += item.Raw
	}
	return text
}

// fields is fields of keys and values in turn.
func fields(words ...string) []api.Field {
	var all []api.Field
	for i := 0; i < len(words); i += 2 {
		all = append(all, api.Field{Key: words[i], Value: words[i+1]})
	}
	return all
}

// x is a text of n bytes.
func x(n int) string {
	return strings.Repeat("x", n)
}

// sameItem tells whether two items are the same; nil and empty fields are.
func sameItem(a, b api.Item) bool {
	return a.Kind == b.Kind && a.Raw == b.Raw && slices.Equal(a.Fields, b.Fields)
}

// holdError holds an error against the wanted one: at a field a Fault, else bare.
func holdError(t *testing.T, call string, err error, at int, want error) {
	t.Helper()
	var f *api.Fault
	isFault := errors.As(err, &f)
	switch {
	case want == nil:
		if err != nil {
			t.Errorf("%s: %v, no error wanted", call, err)
		}
	case !errors.Is(err, want) || isFault != (at >= 0) || isFault && f.At != at:
		t.Errorf("%s: %#v, wanted %v at %d", call, err, want, at)
	}
}

// holdFields holds the calls of one stanza against the plain ones.
func holdFields(t *testing.T, list []api.Field) {
	t.Helper()
	if t.Failed() {
		return
	}
	at, want := plainCheck(list)
	wantText, wantItem := "", api.Item{}
	if want == nil {
		wantText = plainStanza(list)
		wantItem = api.Item{Kind: api.Record, Raw: wantText, Fields: list}
	}
	holdError(t, "Check", print.Check(list...), at, want)
	text, err := print.Stanza(list...)
	holdError(t, "Stanza", err, at, want)
	if text != wantText {
		t.Errorf("Stanza(%q): %q, wanted %q", list, text, wantText)
	}
	item, err := print.Item(list...)
	holdError(t, "Item", err, at, want)
	if !sameItem(item, wantItem) {
		t.Errorf("Item(%q): %v, wanted %v", list, item, wantItem)
	}
	holdList(t, list)
	holdPlain(t, api.Item{Kind: api.Record, Raw: wantText, Fields: list})
}

// holdList holds a list's text against the plain one.
func holdList(t *testing.T, list ...[]api.Field) {
	t.Helper()
	want, at, wantErr := plainText(list)
	text, err := print.Text(list...)
	holdError(t, "Text", err, at, wantErr)
	if text != want {
		t.Errorf("Text(%q): %q, wanted %q", list, text, want)
	}
}

// holdItems holds the calls of items against the plain ones.
func holdItems(t *testing.T, items []api.Item) {
	t.Helper()
	if t.Failed() {
		return
	}
	if got, want := print.Apart(items...), plainApart(items); !slices.EqualFunc(got, want, sameItem) {
		t.Errorf("Apart(%v): %v, wanted %v", items, got, want)
	}
	if got, want := print.Render(items...), plainRender(items); got != want {
		t.Errorf("Render(%v): %q, wanted %q", items, got, want)
	}
}

// holdPlain holds Plain of an item, and of ones near it, against the chapter's words.
func holdPlain(t *testing.T, item api.Item) {
	t.Helper()
	_, wrong := plainCheck(item.Fields)
	for kind := -1; kind <= 4; kind++ {
		for _, raw := range []string{item.Raw, item.Raw + "\n", strings.TrimSuffix(item.Raw, "\n"), strings.Replace(item.Raw, ": ", ":", 1), ""} {
			near := api.Item{Kind: kind, Raw: raw, Fields: item.Fields}
			want := kind == api.Record && wrong == nil && raw == plainStanza(item.Fields)
			if got := print.Plain(near); got != want {
				t.Errorf("Plain(%v): %v", near, got)
			}
		}
	}
}

// someFields is good and wrong fields: at the edges of keys and values, and of what a value's lines are folded to.
func someFields() []api.Field {
	return fields("A", "", "A", "1", "B c", " 1 ", "A", "1\n2", "A", "\n", "A", "\n\n.\n \n\t\n..x\n", "#", "1", "x#", "#\n#",
		"", "1", "a:b", "1", " a", "1", "\ta", "1", "a\nb", "1", "\xff", "\xfe\n\xfd", x(32), x(1000), x(33), "1", "A", x(1001), x(33), x(1001), "A", "\r\n\x00")
}

// P6.1: Check, Stanza, Item, Text and Plain of all stanzas of up to two fields are what the chapter says.
func TestFewFields(t *testing.T) {
	holdFields(t, nil)
	holdFields(t, []api.Field{})
	all := someFields()
	for _, a := range all {
		holdFields(t, []api.Field{a})
		for _, b := range all {
			holdFields(t, []api.Field{a, b})
			holdList(t, []api.Field{a}, []api.Field{b})
			holdList(t, []api.Field{a}, nil, []api.Field{b})
		}
	}
}

// P6.1: up to 40 fields are a stanza's; the number of them is asked ahead of the fields, those from the first one on.
func TestNumberOfFields(t *testing.T) {
	for n := range 84 {
		holdFields(t, slices.Repeat(fields("A", "1"), n))
		holdFields(t, make([]api.Field, n))
	}
	for at := range 40 {
		list := slices.Repeat(fields("A", "1\n2"), 40)
		list[39] = api.Field{}
		list[at].Value = x(1001)
		holdFields(t, list)
		list[at].Key = ":"
		holdFields(t, list)
	}
}

// P6.1: the texts as they are written out.
func TestWrittenOut(t *testing.T) {
	for _, c := range []struct {
		list []api.Field
		text string
	}{
		{fields("A", "1"), "A: 1\n"},
		{fields("A", ""), "A:\n"},
		{fields("A", "1", "B", "2", "A", "3"), "A: 1\nB: 2\nA: 3\n"},
		{fields("A", "x\n\n.y\n \n  z"), "A: x\n .\n ..y\n . \n   z\n"},
		{fields("A", "\n", "B", " b"), "A:\n .\nB:  b\n"},
	} {
		text, err := print.Stanza(c.list...)
		if err != nil || text != c.text {
			t.Errorf("%q: %q %v", c.list, text, err)
		}
	}
	if text, err := print.Text(fields("A", "1"), fields("B", "2")); err != nil || text != "A: 1\n\nB: 2\n" {
		t.Errorf("%q %v", text, err)
	}
	if text, err := print.Text(); err != nil || text != "" {
		t.Errorf("%q %v", text, err)
	}
	if got := print.Check(fields("A", "1", "B", "2")...); got != nil {
		t.Error(got)
	}
}

// P6.1: of a list the first stanza that is wrong tells the error; where none is, more than 400 stanzas have a text, too.
func TestLists(t *testing.T) {
	good, key, value, full := fields("A", "1", "B", "2\n"), fields("A", "1", "", "2"), fields("A", x(1001)), make([]api.Field, 41)
	all := [][]api.Field{good, key, value, full, nil, {}, fields("C", "")}
	for _, a := range all {
		for _, b := range all {
			for _, c := range all {
				holdList(t, a, b, c)
			}
		}
	}
	for _, n := range []int{399, 400, 401, 1000} {
		list := slices.Repeat([][]api.Field{good}, n)
		holdList(t, list...)
		list[n-1] = key
		holdList(t, list...)
	}
	holdList(t, slices.Repeat([][]api.Field{fields("A", x(1000))}, 100)...)
}

// P6.1: Apart and Render of all items of up to five kinds, those of no kind among them, are what the chapter says.
func TestItems(t *testing.T) {
	kinds := []api.Item{
		{Kind: api.Blank, Raw: " \t\n"},
		{Kind: api.Blank, Raw: "", Fields: fields("C", "")},
		{Kind: api.Remark, Raw: "# c\n"},
		{Kind: api.Record, Raw: "A: 1\n", Fields: fields("A", "1")},
		{Kind: api.Record, Raw: "\n", Fields: fields(":", x(1001), "B", "")},
		{Kind: 0},
		{Kind: 4, Raw: "\xff"},
		{Kind: -1, Raw: "\n"},
	}
	holdItems(t, nil)
	holdItems(t, []api.Item{})
	for length := 1; length <= 5; length++ {
		total := 1
		for range length {
			total *= len(kinds)
		}
		for n := range total {
			items := make([]api.Item, length)
			for i := range items {
				items[i] = kinds[n%len(kinds)]
				n /= len(kinds)
			}
			holdItems(t, items)
		}
	}
	holdItems(t, slices.Repeat(kinds[3:4], 2000))
}

// P6.1: items as they are written out: a Blank comes between two neighbours alone, and the others stay.
func TestApartWrittenOut(t *testing.T) {
	remark := api.Item{Kind: api.Remark, Raw: "# c\n"}
	blank := api.Item{Kind: api.Blank, Raw: "\t\n"}
	record := api.Item{Kind: api.Record, Raw: "A:1\n", Fields: fields("A", "1")}
	between := api.Item{Kind: api.Blank, Raw: "\n"}
	got := print.Apart(remark, record, record, blank, record, blank, blank, remark)
	want := []api.Item{remark, between, record, between, record, blank, record, blank, blank, remark}
	if !slices.EqualFunc(got, want, sameItem) {
		t.Error(got)
	}
	if got := print.Render(record, remark, blank); got != "A:1\n\n# c\n\t\n" {
		t.Errorf("%q", got)
	}
	if got := print.Render(); got != "" || len(print.Apart()) != 0 {
		t.Errorf("%q", got)
	}
	if again := print.Apart(got...); !slices.EqualFunc(again, want, sameItem) {
		t.Error("put apart twice:", again)
	}
}

// P6.1: Plain asks the kind, the fields and each byte of the text.
func TestPlain(t *testing.T) {
	for _, c := range []struct {
		item api.Item
		want bool
	}{
		{api.Item{Kind: api.Record, Raw: "A: 1\n", Fields: fields("A", "1")}, true},
		{api.Item{Kind: api.Record, Raw: "A:1\n", Fields: fields("A", "1")}, false},
		{api.Item{Kind: api.Record, Raw: "A: 1\n# c\n", Fields: fields("A", "1")}, false},
		{api.Item{Kind: api.Record, Raw: "A: 1\n\ty\n", Fields: fields("A", "1\ny")}, false},
		{api.Item{Kind: api.Record, Raw: "A: 1\n", Fields: fields("A", "2")}, false},
		{api.Item{Kind: api.Record, Raw: "A: 1\n", Fields: fields("A", "1", "B", "")}, false},
		{api.Item{Kind: api.Remark, Raw: "A: 1\n", Fields: fields("A", "1")}, false},
		{api.Item{Kind: api.Blank, Raw: "\n"}, false},
		{api.Item{Kind: api.Remark}, false},
		{api.Item{Kind: api.Record}, false},
		{api.Item{Kind: api.Record, Raw: ": 1\n", Fields: fields("", "1")}, false},
		{api.Item{Kind: api.Record, Raw: "A: " + x(1001) + "\n", Fields: fields("A", x(1001))}, false},
		{api.Item{Kind: api.Record, Raw: strings.Repeat("A:\n", 40), Fields: slices.Repeat(fields("A", ""), 40)}, true},
		{api.Item{Kind: api.Record, Raw: strings.Repeat("A:\n", 41), Fields: slices.Repeat(fields("A", ""), 41)}, false},
		{api.Item{}, false},
	} {
		if got := print.Plain(c.item); got != c.want {
			t.Errorf("%v: %v", c.item, got)
		}
	}
}

// randomFields is good fields, whose values are of what folding has to do with.
func randomFields(random *rand.Rand) []api.Field {
	var list []api.Field
	for range 1 + random.IntN(4) {
		value := ""
		for range random.IntN(12) {
			value += []string{"\n", " ", "\t", ".", "#", ":", "x", "\r", "\x00", "\xff"}[random.IntN(10)]
		}
		list = append(list, api.Field{Key: []string{"A", "B c", "x ", "-#"}[random.IntN(4)], Value: value})
	}
	return list
}

// P6.2: a list's text is parsed to Records of the stanzas, which are plain; so is a stanza's.
func TestParsedAgain(t *testing.T) {
	random := rand.New(rand.NewPCG(6, 2))
	for range 5000 {
		var list [][]api.Field
		for range random.IntN(5) {
			list = append(list, randomFields(random))
			holdParsed(t, list[len(list)-1])
		}
		holdParsed(t, list...)
	}
	holdParsed(t, slices.Repeat([][]api.Field{fields("A", "1")}, 400)...)
	holdParsed(t, slices.Repeat(fields(x(32), x(1000)), 40))
	// The last stanza fills the text up to the limit.
	list := slices.Repeat([][]api.Field{fields("A", x(1000))}, 59)
	text, _ := print.Text(list...)
	list = append(list, fields("B", x(60000-len(text)-len("\nB: \n"))))
	holdParsed(t, list...)
	if text, _ := print.Text(list...); len(text) != 60000 {
		t.Error(len(text))
	}
}

// holdParsed holds what is parsed of a list's text against the list.
func holdParsed(t *testing.T, list ...[]api.Field) {
	t.Helper()
	if t.Failed() {
		return
	}
	text, err := print.Text(list...)
	if err != nil {
		t.Errorf("%q: %v", list, err)
		return
	}
	items, err := stanza.Parse(text)
	if err != nil || !slices.EqualFunc(stanza.Stanzas(items), list, slices.Equal) {
		t.Errorf("%q: %v %v", list, items, err)
		return
	}
	for _, item := range items {
		if item.Kind == api.Remark || print.Plain(item) != (item.Kind == api.Record) {
			t.Errorf("%q: %v", list, item)
		}
	}
	if got := print.Render(items...); got != text {
		t.Errorf("%q: %q", text, got)
	}
	var made []api.Item
	for _, fields := range list {
		item, _ := print.Item(fields...)
		made = append(made, item)
	}
	if !slices.EqualFunc(print.Apart(made...), items, sameItem) {
		t.Errorf("%q: the items made aren't those parsed", list)
	}
}

// P6.2: what is parsed of a text is rendered to it, byte for byte: of all texts of few lines.
func TestRenderedAgain(t *testing.T) {
	words := []string{"\n", " \t\n", "# c\n", "A: 1\n", "B:2\n", " more\n", "\t.\n"}
	good := 0
	for length := 0; length <= 6; length++ {
		total := 1
		for range length {
			total *= len(words)
		}
		for n := range total {
			text := ""
			for range length {
				text += words[n%len(words)]
				n /= len(words)
			}
			items, err := stanza.Parse(text)
			if err != nil {
				continue
			}
			good++
			if got := print.Render(items...); got != text {
				t.Fatalf("%q: %q", text, got)
			}
			if got := print.Apart(items...); !slices.EqualFunc(got, items, sameItem) {
				t.Fatalf("%q: %v", text, got)
			}
		}
	}
	if good < 10000 {
		t.Error("too few good texts:", good)
	}
}

// P6.3: what is handed in stays as it was, with its spare room.
func TestArgumentsStay(t *testing.T) {
	list := fields("A", "1\n", "B", "2", "", "wrong", "behind", "")
	for n := range len(list) {
		print.Check(list[:n]...)
		print.Stanza(list[:n]...)
		item, _ := print.Item(list[:n]...)
		clear(append(item.Fields, fields("X", "", "Y", "")...))
		clear(item.Fields[:cap(item.Fields)])
		print.Text(list[:n], list[:n])
		print.Plain(api.Item{Kind: api.Record, Raw: "A: 1\n", Fields: list[:n]})
	}
	if !slices.Equal(list, fields("A", "1\n", "B", "2", "", "wrong", "behind", "")) {
		t.Errorf("%q", list)
	}
	lists := [][]api.Field{list[:1], list[1:2], list[:2]}
	print.Text(lists[:2]...)
	if !slices.EqualFunc(lists, [][]api.Field{list[:1], list[1:2], list[:2]}, slices.Equal) {
		t.Errorf("%q", lists)
	}
	made := func() []api.Item {
		record := api.Item{Kind: api.Record, Raw: "A: 1\n", Fields: fields("A", "1", "behind", "")}
		record.Fields = record.Fields[:1]
		return []api.Item{record, record, {Kind: api.Remark, Raw: "# c\n", Fields: fields("B", "")}, record}
	}
	items := made()
	for n := range len(items) {
		print.Render(items[:n]...)
		got := print.Apart(items[:n]...)
		for _, item := range got {
			clear(append(item.Fields, fields("X", "", "Y", "")...))
			clear(item.Fields[:cap(item.Fields)])
		}
		clear(append(got, api.Item{Kind: 7}))
	}
	if !slices.EqualFunc(items, made(), sameItem) || items[0].Fields[:2][1].Key != "behind" {
		t.Error(items)
	}
}

// P6.3: an answer is new: whoever changes an argument afterwards, or a list of an answer, changes nothing else that is answered.
func TestAnswersAreNew(t *testing.T) {
	list := fields("A", "1", "B", "2")
	want := api.Item{Kind: api.Record, Raw: "A: 1\nB: 2\n", Fields: fields("A", "1", "B", "2")}
	one, _ := print.Item(list...)
	clear(list)
	if !sameItem(one, want) {
		t.Error("kept:", one)
	}
	apart := print.Apart(one, one, one)
	clear(one.Fields)
	for i := range apart {
		for k, item := range apart {
			if k >= i && k%2 == 0 && !sameItem(item, want) {
				t.Errorf("item %d: %v", k, item)
			}
		}
		clear(append(apart[i].Fields, fields("X", "")...))
		clear(apart[i].Fields[:cap(apart[i].Fields)])
	}
	holdFields(t, fields("A", "1", "B", "2"))
	holdItems(t, []api.Item{want, want})
}
