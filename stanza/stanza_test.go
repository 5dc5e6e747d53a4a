package stanza_test

import (
	"errors"
	"math/rand/v2"
	"slices"
	"strings"
	"testing"

	"stanzakeep/api"
	"stanzakeep/stanza"
)

// The chapter's words in the plainest way there is: the tests hold the calls against these.

// plainLine is a line of a text, with its kind as a letter: Empty, Note, More, Pair, Odd.
type plainLine struct {
	text  string
	ended bool
	kind  byte
}

// plainLines is a text's lines.
func plainLines(text string) []plainLine {
	parts := strings.Split(text, "\n")
	var all []plainLine
	for i, part := range parts {
		if last := i == len(parts)-1; !last || part != "" {
			all = append(all, plainLine{part, !last, plainKind(part)})
		}
	}
	return all
}

// plainKind is the kind of a line.
func plainKind(line string) byte {
	key, _, hasColon := strings.Cut(line, ":")
	switch {
	case strings.Trim(line, " \t") == "":
		return 'E'
	case line[0] == '#':
		return 'N'
	case line[0] == ' ' || line[0] == 0x09:
		return 'M'
	case hasColon && len(key) >= 1 && len(key) <= 32:
		return 'P'
	}
	return 'O'
}

// plainField is what the Pair at line i says, together with the More lines right behind it.
func plainField(all []plainLine, i int) api.Field {
	key, value, _ := strings.Cut(all[i].text, ":")
	value = strings.TrimPrefix(value, " ")
	for _, line := range all[i+1:] {
		if line.kind != 'M' {
			break
		}
		value += "\n" + strings.TrimPrefix(line.text[1:], ".")
	}
	return api.Field{Key: key, Value: value}
}

// plainWrong is what is wrong with line i, given how many fields the block has ahead of it, and how many stanzas begin ahead of it.
func plainWrong(all []plainLine, i, fields, stanzas int) error {
	line := all[i]
	switch {
	case line.kind == 'O':
		return api.ErrForm
	case line.kind == 'M' && (i == 0 || all[i-1].kind != 'P' && all[i-1].kind != 'M'):
		return api.ErrForm
	case !line.ended:
		return api.ErrForm
	case line.kind != 'P':
		return nil
	case len(plainField(all, i).Value) > 1000:
		return api.ErrValue
	case fields == 40 || fields == 0 && stanzas == 400:
		return api.ErrFull
	}
	return nil
}

// plainParse is a text's items, or the first line that is wrong, and what is.
func plainParse(text string) ([]api.Item, int, error) {
	if len(text) > 60000 {
		return nil, -1, api.ErrRange
	}
	all := plainLines(text)
	var items []api.Item
	stanzas, open := 0, false
	for i, line := range all {
		fields := 0
		if open {
			fields = len(items[len(items)-1].Fields)
		}
		if err := plainWrong(all, i, fields, stanzas); err != nil {
			return nil, i, err
		}
		if line.kind == 'E' || !open {
			items = append(items, api.Item{Kind: api.Remark})
		}
		item := &items[len(items)-1]
		item.Raw += line.text + "\n"
		open = line.kind != 'E'
		switch line.kind {
		case 'E':
			item.Kind = api.Blank
		case 'P':
			if item.Kind == api.Remark {
				stanzas++
			}
			item.Kind = api.Record
			item.Fields = append(item.Fields, plainField(all, i))
		}
	}
	return items, -1, nil
}

// sameItem tells whether two items are alike in all.
func sameItem(a, b api.Item) bool {
	return a.Kind == b.Kind && a.Raw == b.Raw && slices.Equal(a.Fields, b.Fields)
}

// sameFault tells whether an error is what the chapter wants: bare at -1, else a *api.Fault at the place.
func sameFault(err error, at int, want error) bool {
	if at < 0 {
		return err == want
	}
	fault, ok := err.(*api.Fault)
	return ok && fault.At == at && fault.Err == want && errors.Is(err, want)
}

// short is a text for a message.
func short(text string) string {
	if len(text) > 100 {
		return text[:100] + " .."
	}
	return text
}

// hold holds what is asked of a text against the chapter's words. Of the many texts of a test the first one that fails tells enough.
func hold(t *testing.T, text string) {
	t.Helper()
	if t.Failed() {
		return
	}
	want, at, wantErr := plainParse(text)
	got, err := stanza.Parse(text)
	if !slices.EqualFunc(got, want, sameItem) {
		t.Errorf("%q: %v", short(text), got)
	}
	if !sameFault(err, at, wantErr) {
		t.Errorf("%q: %v, not %v at line %d", short(text), err, wantErr, at)
	}
	if stanza.Good(text) != (wantErr == nil) {
		t.Errorf("%q: Good", short(text))
	}
	if wantErr != nil {
		return
	}
	if stanza.Join(got...) != text {
		t.Errorf("%q: joined %q", short(text), short(stanza.Join(got...)))
	}
	var fields [][]api.Field
	for _, item := range want {
		if item.Kind == api.Record {
			fields = append(fields, item.Fields)
		}
	}
	if stanzas := stanza.Stanzas(got); !slices.EqualFunc(stanzas, fields, slices.Equal) {
		t.Errorf("%q: stanzas %q", short(text), stanzas)
	}
}

// wrong holds a text against an error that is written out.
func wrong(t *testing.T, text string, at int, want error) {
	t.Helper()
	items, err := stanza.Parse(text)
	if len(items) != 0 || !sameFault(err, at, want) {
		var fault *api.Fault
		if errors.As(err, &fault) {
			t.Errorf("%q: %v at line %d, not %v at %d", short(text), err, fault.At, want, at)
		} else {
			t.Errorf("%q: %v, not %v at %d", short(text), err, want, at)
		}
	}
	hold(t, text)
}

// fields are fields of these keys and values, by turns.
func fields(said ...string) []api.Field {
	var all []api.Field
	for pair := range slices.Chunk(said, 2) {
		all = append(all, api.Field{Key: pair[0], Value: pair[1]})
	}
	return all
}

// blank is a Blank item.
func blank(raw string) api.Item {
	return api.Item{Kind: api.Blank, Raw: raw}
}

// remark is a Remark.
func remark(raw string) api.Item {
	return api.Item{Kind: api.Remark, Raw: raw}
}

// record is a Record of these keys and values, by turns.
func record(raw string, said ...string) api.Item {
	return api.Item{Kind: api.Record, Raw: raw, Fields: fields(said...)}
}

// x is n bytes of a value.
func x(n int) string {
	return strings.Repeat("x", n)
}

// P5.1: items, written out: blocks between Empty lines, at the beginning and at the end, Notes anywhere in them.
func TestParseWrittenOut(t *testing.T) {
	for _, c := range []struct {
		text string
		want []api.Item
	}{
		{"", nil},
		{"\n", []api.Item{blank("\n")}},
		{" \t\n\n", []api.Item{blank(" \t\n"), blank("\n")}},
		{"#\n", []api.Item{remark("#\n")}},
		{"# a\n#b: c\n", []api.Item{remark("# a\n#b: c\n")}},
		{"A:\n", []api.Item{record("A:\n", "A", "")}},
		{"A: 1\n# n\n\n", []api.Item{record("A: 1\n# n\n", "A", "1"), blank("\n")}},
		{"# n\nA:1\n#\n#\nB:\t 2\n#\n", []api.Item{record("# n\nA:1\n#\n#\nB:\t 2\n#\n", "A", "1", "B", "\t 2")}},
		{"A: 1\nA: 2\n\nA: 1\n", []api.Item{
			record("A: 1\nA: 2\n", "A", "1", "A", "2"),
			blank("\n"),
			record("A: 1\n", "A", "1"),
		}},
		{"# a\n\t\n# b\n\nA:\n", []api.Item{
			remark("# a\n"),
			blank("\t\n"),
			remark("# b\n"),
			blank("\n"),
			record("A:\n", "A", ""),
		}},
		{"A:  x:\n .\n\t..\n # no note\n b: c\n\t \xffd\r\n", []api.Item{
			record("A:  x:\n .\n\t..\n # no note\n b: c\n\t \xffd\r\n", "A", " x:\n\n.\n# no note\nb: c\n \xffd\r"),
		}},
		{"%amend 1: 2\n\r: \n.:\n", []api.Item{record("%amend 1: 2\n\r: \n.:\n", "%amend 1", "2", "\r", "", ".", "")}},
		{strings.Repeat("k", 32) + ":" + x(1000) + "\n", []api.Item{
			record(strings.Repeat("k", 32)+":"+x(1000)+"\n", strings.Repeat("k", 32), x(1000)),
		}},
	} {
		got, err := stanza.Parse(c.text)
		if err != nil || !slices.EqualFunc(got, c.want, sameItem) {
			t.Errorf("%q: %v %v", c.text, got, err)
		}
		hold(t, c.text)
	}
}

// P5.1: lines that are wrong by their form, written out.
func TestFormWrittenOut(t *testing.T) {
	for _, c := range []struct {
		text string
		at   int
	}{
		{"a\n", 0},
		{"\n\na\n", 2},
		{"A: 1\na\n", 1},
		{"A: 1\n m\na\n", 2},
		{":\n", 0},
		{":A: 1\n", 0},
		{"%amend\n", 0},
		{"\r\n", 0},
		{"\x0b\n", 0},
		{strings.Repeat("k", 33) + ": 1\n", 0},
		{" m\n", 0},
		{"\tA: 1\n", 0},
		{"\n m\n", 1},
		{"#\n m\n", 1},
		{"A: 1\n#\n m\n", 2},
		{"A: 1\n\n m\n", 2},
		{"A: 1\n m\n#\n m\n", 3},
		{"A: 1\n \t\n m\n", 2},
		{"A: 1", 0},
		{"#", 0},
		{" ", 0},
		{"a", 0},
		{" m", 0},
		{"A: 1\n m", 1},
		{"A: 1\n#", 1},
		{"A: 1\nB", 1},
		{"A: 1\nB:", 1},
		{"A: 1\n ", 1},
		{"A: 1\n\n#", 2},
		{"a\nb\n", 0},
		{" m\na", 0},
	} {
		wrong(t, c.text, c.at, api.ErrForm)
	}
}

// P5.1: what is wrong with a value is so where its field begins: ahead of what is wrong behind that line, and behind what is wrong with it.
func TestValueWrittenOut(t *testing.T) {
	long := x(1001)
	many := strings.Repeat(" m\n", 499)
	for _, c := range []struct {
		text string
		at   int
		want error
	}{
		{"A: " + long + "\n", 0, api.ErrValue},
		{"A:" + long + "\n", 0, api.ErrValue},
		{"A:  " + x(1000) + "\n", 0, api.ErrValue},
		{"\n#\nA: 1\nB: " + long + "\n", 3, api.ErrValue},
		{"A: " + x(999) + "\n y\n", 0, api.ErrValue},
		{"A: " + x(1000) + "\n .\n", 0, api.ErrValue},
		{"A: " + x(1000) + "\n .\n\nB: 1\n", 0, api.ErrValue},
		{"A: " + x(1000) + "\n .\n\n\nb\n", 0, api.ErrValue},
		{"A: xxx\n" + many, 0, api.ErrValue},
		{"A: x\n# n\nA: x\n" + strings.Repeat(" .\n", 1000), 2, api.ErrValue},
		{"A: " + long + "\nB: " + long + "\n", 0, api.ErrValue},
		{"A: " + x(1000) + "\nB: " + long + "\n", 1, api.ErrValue},
		{"A: " + long + "\na\n", 0, api.ErrValue},
		{"A: " + long + "\n#\n m\n", 0, api.ErrValue},
		{"A: " + long + "\n m", 0, api.ErrValue},
		{"A: " + long + "\n#", 0, api.ErrValue},
		{"A: " + long + "\nB", 0, api.ErrValue},
		{"A: " + x(1000) + "\n .", 0, api.ErrValue},
		{"A: " + x(998) + "\n y", 1, api.ErrForm},
		{"A: " + x(1000) + "\ny\n", 1, api.ErrForm},
		{"A: " + x(1000) + "\n#\n y\n", 2, api.ErrForm},
		{"a\nA: " + long + "\n", 0, api.ErrForm},
		{"A: " + long, 0, api.ErrForm},
		{"A: 1\nB: " + long, 1, api.ErrForm},
		{"A " + long + "\n", 0, api.ErrForm},
	} {
		wrong(t, c.text, c.at, c.want)
	}
	for _, text := range []string{
		"A: " + x(1000) + "\n",
		"A: " + x(998) + "\n y\n",
		"A: " + x(999) + "\n .\n",
		"A: " + x(998) + "\n ..\n",
		"A: xx\n" + many,
		"A:\n" + strings.Repeat(" .\n", 1000),
		"# " + x(2000) + "\n",
		"A: " + x(1000) + "\n# n\nB: " + x(1000) + "\n",
	} {
		hold(t, text)
		if !stanza.Good(text) {
			t.Errorf("%q: isn't good", short(text))
		}
	}
}

// P5.1: 40 fields of a stanza and 400 stanzas, whatever stands beside them; one more is wrong where it begins.
func TestFullWrittenOut(t *testing.T) {
	forty := strings.Repeat("A: 1\n", 40)
	noted := strings.Repeat("# n\nA: 1\n m\n# n\n", 40)
	list := strings.Repeat("A: 1\n\n", 400)
	remarks := strings.Repeat("# n\n\n# n\nA: 1\nB: 2\n\n \n", 400)
	for _, text := range []string{
		forty, noted, list, remarks,
		strings.Repeat(forty+"\n", 3) + "#\n",
		list + strings.Repeat("#\n\n", 401),
		strings.TrimSuffix(list, "\n"),
		strings.TrimSuffix(list, "\n") + strings.Repeat("A: 1\n", 39),
	} {
		hold(t, text)
		if !stanza.Good(text) {
			t.Errorf("%q: isn't good", short(text))
		}
	}
	for _, c := range []struct {
		text string
		at   int
		want error
	}{
		{forty + "A: 1\n", 40, api.ErrFull},
		{forty + "A: 1\nA: 1\n", 40, api.ErrFull},
		{"\n" + forty + "# n\nA: 1\n m\n", 42, api.ErrFull},
		{noted + "A: 1\n", 160, api.ErrFull},
		{forty + "\n" + forty + "A: 1\n", 81, api.ErrFull},
		{forty + "A: 1\na\n", 40, api.ErrFull},
		{forty + "A: 1\n m", 40, api.ErrFull},
		{forty + "A: 1\n#\n m\n", 40, api.ErrFull},
		{forty + "A: " + x(1001) + "\n", 40, api.ErrValue},
		{forty + "A: " + x(1000) + "\n .\n", 40, api.ErrValue},
		{forty + "A: 1\nA: " + x(1001) + "\n", 40, api.ErrFull},
		{forty + "A: 1", 40, api.ErrForm},
		{forty + "A\n", 40, api.ErrForm},
		{list + "A: 1\n", 800, api.ErrFull},
		{list + "# n\n# n\nA: 1\nA: 1\n", 802, api.ErrFull},
		{list + "#\n\n#\nA: 1\n", 803, api.ErrFull},
		{remarks + "A: 1\n", 2800, api.ErrFull},
		{list + "A: 1\n m\na\n", 800, api.ErrFull},
		{list + "A: " + x(1001) + "\n", 800, api.ErrValue},
		{list + "A: 1", 800, api.ErrForm},
		{list + " m\n", 800, api.ErrForm},
		{list + "#\na\nA: 1\n", 801, api.ErrForm},
		{strings.TrimSuffix(list, "\n") + forty, 838, api.ErrFull},
	} {
		wrong(t, c.text, c.at, c.want)
	}
}

// P5.1: 60000 bytes are taken, one more are refused, ahead of whatever is wrong in them, and without a place.
func TestRange(t *testing.T) {
	for _, text := range []string{
		strings.Repeat("#\n", 30000),
		strings.Repeat("\n", 60000),
		"#" + x(59998) + "\n",
		strings.Repeat("A: 1\n\n", 400) + strings.Repeat("#2345678\n", 6400),
	} {
		if len(text) != 60000 || !stanza.Good(text) {
			t.Errorf("%q: %d bytes", short(text), len(text))
		}
		hold(t, text)
		for _, more := range []string{"\n", "a", "#\n", " m\n", text} {
			wrong(t, text+more, -1, api.ErrRange)
			wrong(t, more+text, -1, api.ErrRange)
		}
	}
	for _, text := range []string{x(60001), " m\n" + x(60000), "A: " + x(60001), strings.Repeat("A:\n", 20001), strings.Repeat("\n", 120000)} {
		wrong(t, text, -1, api.ErrRange)
	}
	for _, text := range []string{x(60000), strings.Repeat("A:\n", 20000), "A:" + x(59998), "A:" + x(59997) + "\n"} {
		hold(t, text)
		if stanza.Good(text) {
			t.Errorf("%q: is good", short(text))
		}
	}
}

// eachText hands over all texts of up to n parts.
func eachText(parts []string, n int, hand func(string)) {
	hand("")
	if n == 0 {
		return
	}
	for _, part := range parts {
		eachText(parts, n-1, func(text string) { hand(part + text) })
	}
}

// P5.1, P5.2: all short texts are as the chapter words it, byte by byte.
func TestAllShortTexts(t *testing.T) {
	eachText([]string{"A", ":", "\n", " ", "#", "."}, 6, func(text string) { hold(t, text) })
	eachText([]string{"A:", "\n", "\n \t", "\n."}, 6, func(text string) { hold(t, text) })
}

// P5.1, P5.2: and line by line, with and without the last line end.
func TestAllShortLists(t *testing.T) {
	parts := []string{"A: 1\n", "B:\n", " m\n", "\t.\n", "# n\n", "\n", " \n", "odd\n"}
	eachText(parts, 5, func(text string) {
		hold(t, text)
		hold(t, strings.TrimSuffix(text, "\n"))
	})
}

// randomLines is a text of n of these parts, the more often one stands there, the more of it.
func randomLines(r *rand.Rand, n int, parts ...string) string {
	var text strings.Builder
	for range n {
		text.WriteString(parts[r.IntN(len(parts))])
	}
	return text.String()
}

// P5.1, P5.2: texts near the limits, where several things may be wrong.
func TestNearLimits(t *testing.T) {
	r := rand.New(rand.NewPCG(5, 1))
	for range 300 {
		value := "V: " + x(997+r.IntN(4)) + "\n"
		blocks := randomLines(r, 360+r.IntN(80), "A: 1\n\n", "B:\n\n", "A: 1\n m\n\n", "# n\nA: 1\n\n", "A: 1\n\n\n")
		stanzas := randomLines(r, 41+r.IntN(8), "A: 1\n", "B: 2\n", "A:\n m\n .\n", "A: 1\n# n\n", "A: 1\n", "# n\n")
		ends := randomLines(r, r.IntN(4), " m\n", " .\n", "# n\n", "\n", "A: 1\n", "A: 1", "odd\n", value)
		for _, text := range []string{value + ends, ends + value, blocks + ends, blocks + value + ends, stanzas + ends, stanzas + value + ends, "# n\n\n" + stanzas + "\n" + stanzas + ends, blocks + stanzas} {
			hold(t, text)
			hold(t, strings.TrimSuffix(text, "\n"))
		}
	}
}

// P5.2: the items of random texts, of all bytes, that are good are the text; what stands in them is what is Empty, or isn't.
func TestItemsJoined(t *testing.T) {
	r := rand.New(rand.NewPCG(5, 2))
	good := 0
	for range 3000 {
		var text strings.Builder
		for range r.IntN(30) {
			some := strings.ReplaceAll(string([]byte{byte(r.Uint32()), byte(r.Uint32()), byte(r.Uint32())}), "\n", "")
			text.WriteString([]string{"\n", " \t \n", "#" + some + "\n", "K: " + some + "\n", "K:" + some + "\n m" + some + "\n", "K:\n ." + some + "\n"}[r.IntN(6)])
		}
		hold(t, text.String())
		items, err := stanza.Parse(text.String())
		if err != nil {
			continue
		}
		good++
		for i, item := range items {
			blank := strings.Trim(item.Raw, " \t\n") == ""
			if item.Raw == "" || blank != (item.Kind == api.Blank) || blank && strings.Count(item.Raw, "\n") != 1 {
				t.Errorf("%q: %v", text.String(), item)
			}
			if i > 0 && item.Kind != api.Blank && items[i-1].Kind != api.Blank {
				t.Errorf("%q: two blocks side by side", text.String())
			}
			if (item.Kind == api.Record) != (len(item.Fields) > 0) {
				t.Errorf("%q: %v", text.String(), item)
			}
		}
	}
	if good < 2000 {
		t.Error("too few good texts:", good)
	}
}

// P5.1: Join and Stanzas take items as they are, whoever made them.
func TestItemsOfOthers(t *testing.T) {
	if got := stanza.Join(); got != "" {
		t.Error(got)
	}
	if got := stanza.Stanzas(nil); len(got) != 0 {
		t.Error(got)
	}
	if got := stanza.Stanzas([]api.Item{}); len(got) != 0 {
		t.Error(got)
	}
	items := []api.Item{
		{Kind: api.Record, Raw: "a", Fields: fields("", "x\n", "A", x(2000))},
		{Kind: 0, Raw: "b\n\n", Fields: fields("B", "")},
		{Kind: api.Blank, Raw: "", Fields: fields("C", "")},
		{Kind: api.Remark, Raw: "A: 1\n", Fields: fields("D", "")},
		{Kind: 4, Raw: "\xff", Fields: fields("E", "")},
		{Kind: api.Record, Raw: "A: 1"},
		{Kind: -3, Raw: "c"},
		{Kind: api.Record, Fields: fields("F", "1")},
	}
	if got := stanza.Join(items...); got != "ab\n\nA: 1\n\xffA: 1c" {
		t.Errorf("%q", got)
	}
	want := [][]api.Field{fields("", "x\n", "A", x(2000)), nil, fields("F", "1")}
	if got := stanza.Stanzas(items); !slices.EqualFunc(got, want, slices.Equal) {
		t.Errorf("%q", got)
	}
	many := slices.Repeat([]api.Item{{Kind: api.Record, Raw: x(100), Fields: fields("A", "1")}}, 2000)
	if len(stanza.Join(many...)) != 200000 || len(stanza.Stanzas(many)) != 2000 {
		t.Error("many")
	}
}

// P5.3: what is handed in stays as it was, with its spare room.
func TestArgumentsStay(t *testing.T) {
	made := func() []api.Item {
		two := record("A: 1\nB: 2\n", "A", "1", "B", "2", "behind", "")
		two.Fields = two.Fields[:2]
		return []api.Item{two, blank("\n"), record("C:\n", "C", ""), remark("behind")}
	}
	items := made()
	for n := range len(items) {
		stanza.Join(items[:n]...)
		for _, got := range stanza.Stanzas(items[:n]) {
			clear(append(got, fields("X", "", "Y", "")...))
			clear(got[:cap(got)])
		}
	}
	if !slices.EqualFunc(items, made(), sameItem) {
		t.Error(items)
	}
	if room := items[0].Fields[:3]; room[2].Key != "behind" {
		t.Errorf("%q", room)
	}
}

// P5.3: an answer is new, and no two of its lists share any: whoever changes one changes nothing else that is answered.
func TestAnswersAreNew(t *testing.T) {
	text := "A: 1\nB: 2\nC: 3\n\nD: 4\n\n\n# n\nE: 5\nF: 6\n m\n"
	want, _, _ := plainParse(text)
	one, _ := stanza.Parse(text)
	two, _ := stanza.Parse(text)
	stanzas := stanza.Stanzas(two)
	for i := range one {
		all := one[i].Fields[:cap(one[i].Fields)]
		for k := range all {
			all[k] = api.Field{Key: "changed"}
		}
		for k, item := range one {
			if k > i && !sameItem(item, want[k]) {
				t.Errorf("item %d: %v", k, item)
			}
		}
	}
	clear(one[:cap(one)])
	for i := range stanzas {
		all := stanzas[i][:cap(stanzas[i])]
		for k := range all {
			all[k] = api.Field{Key: "changed"}
		}
		for k, other := range stanzas {
			if k > i && other[0].Key == "changed" {
				t.Errorf("stanza %d: %q", k, other)
			}
		}
	}
	if !slices.EqualFunc(two, want, sameItem) {
		t.Error(two)
	}
	again := stanza.Stanzas(two)
	for i := range two {
		clear(two[i].Fields)
	}
	clear(two)
	if !slices.EqualFunc(again, [][]api.Field{fields("A", "1", "B", "2", "C", "3"), fields("D", "4"), fields("E", "5", "F", "6\nm")}, slices.Equal) {
		t.Errorf("%q", again)
	}
	three, _ := stanza.Parse(text)
	hold(t, text)
	if !slices.EqualFunc(three, want, sameItem) {
		t.Error(three)
	}
}
