package fold_test

import (
	"math/rand/v2"
	"slices"
	"strings"
	"testing"

	"stanzakeep/api"
	"stanzakeep/fold"
	"stanzakeep/lines"
)

// The chapter's words, byte by byte, in the plainest way there is: the tests hold the calls against these.

// plainCheck asks whether a field is good.
func plainCheck(f api.Field) error {
	k := f.Key
	if len(k) < 1 || len(k) > 32 || k[0] == ' ' || k[0] == 0x09 || k[0] == '#' {
		return api.ErrKey
	}
	for i := range len(k) {
		if k[i] == ':' || k[i] == 0x0a {
			return api.ErrKey
		}
	}
	if len(f.Value) > 1000 {
		return api.ErrValue
	}
	return nil
}

// plainValue is a value's lines, one more than it has line ends.
func plainValue(value string) []string {
	all := []string{""}
	for i := range len(value) {
		if value[i] == 0x0a {
			all = append(all, "")
			continue
		}
		all[len(all)-1] += value[i : i+1]
	}
	return all
}

// allBlank tells whether a line is empty, or blanks alone.
func allBlank(line string) bool {
	for i := range len(line) {
		if line[i] != ' ' && line[i] != 0x09 {
			return false
		}
	}
	return true
}

// plainLines is a field's lines.
func plainLines(f api.Field) ([]string, error) {
	if err := plainCheck(f); err != nil {
		return nil, err
	}
	var all []string
	for i, line := range plainValue(f.Value) {
		switch {
		case i == 0 && line == "":
			all = append(all, f.Key+":")
		case i == 0:
			all = append(all, f.Key+": "+line)
		case allBlank(line) || line[0] == '.':
			all = append(all, " ."+line)
		default:
			all = append(all, " "+line)
		}
	}
	return all, nil
}

// plainUnfold is the field that lines say.
func plainUnfold(list []string) (api.Field, error) {
	if len(list) == 0 {
		return api.Field{}, api.ErrForm
	}
	at := strings.IndexByte(list[0], ':')
	if at < 0 || plainCheck(api.Field{Key: list[0][:at]}) != nil || strings.IndexByte(list[0], 0x0a) >= 0 || allBlank(list[0]) {
		return api.Field{}, api.ErrForm
	}
	f := api.Field{Key: list[0][:at], Value: list[0][at+1:]}
	if f.Value != "" && f.Value[0] == ' ' {
		f.Value = f.Value[1:]
	}
	for _, line := range list[1:] {
		if allBlank(line) || line[0] != ' ' && line[0] != 0x09 || strings.IndexByte(line, 0x0a) >= 0 {
			return api.Field{}, api.ErrForm
		}
		line = line[1:]
		if line != "" && line[0] == '.' {
			line = line[1:]
		}
		f.Value += "\n" + line
	}
	if len(f.Value) > 1000 {
		return api.Field{}, api.ErrValue
	}
	return f, nil
}

// plainPlain tells whether lines are those of the field that they say.
func plainPlain(list []string) bool {
	f, err := plainUnfold(list)
	if err != nil {
		return false
	}
	folded, err := plainLines(f)
	return err == nil && slices.Equal(folded, list)
}

// plainFold is the lines of all fields, each with a line end behind it.
func plainFold(list []api.Field) (string, error) {
	text := ""
	for _, f := range list {
		folded, err := plainLines(f)
		if err != nil {
			return "", err
		}
		for _, line := range folded {
			text += line + "\n"
		}
	}
	return text, nil
}

// texts are all texts of up to n bytes of an alphabet.
func texts(alphabet string, n int) []string {
	all := []string{""}
	for from := 0; n > 0; n-- {
		to := len(all)
		for _, text := range all[from:to] {
			for i := range len(alphabet) {
				all = append(all, text+alphabet[i:i+1])
			}
		}
		from = to
	}
	return all
}

// fields are fields of these keys and values, by turns.
func fields(said ...string) []api.Field {
	var all []api.Field
	for pair := range slices.Chunk(said, 2) {
		all = append(all, api.Field{Key: pair[0], Value: pair[1]})
	}
	return all
}

// k is n bytes of a key.
func k(n int) string {
	return strings.Repeat("k", n)
}

// holdField holds what is asked of one field against the chapter's words.
func holdField(t *testing.T, f api.Field) {
	t.Helper()
	wantErr := plainCheck(f)
	if err := fold.Check(f); err != wantErr {
		t.Errorf("Check %q: %v", f, err)
	}
	want, _ := plainLines(f)
	got, err := fold.Lines(f)
	if !slices.Equal(got, want) || err != wantErr {
		t.Errorf("Lines %q: %q %v", f, got, err)
	}
	wantText, _ := plainFold([]api.Field{f})
	text, err := fold.Fold(f)
	if text != wantText || err != wantErr {
		t.Errorf("Fold %q: %q %v", f, text, err)
	}
	if wantErr != nil {
		return
	}
	if !fold.Plain(got...) {
		t.Errorf("%q: its lines aren't plain: %q", f, got)
	}
	if again, err := fold.Unfold(got...); again != f || err != nil {
		t.Errorf("%q: again %q %v", f, again, err)
	}
}

// holdLines holds what is asked of lines against the chapter's words.
func holdLines(t *testing.T, list ...string) {
	t.Helper()
	want, wantErr := plainUnfold(list)
	if got, err := fold.Unfold(list...); got != want || err != wantErr {
		t.Errorf("Unfold %q: %q %v, not %q %v", list, got, err, want, wantErr)
	}
	if got := fold.Plain(list...); got != plainPlain(list) {
		t.Errorf("Plain %q: %v", list, got)
	}
}

// P4.1: which fields are good, with the edges of keys and values; of two errors the key's.
func TestCheckWrittenOut(t *testing.T) {
	for _, c := range []struct {
		key, value string
		want       error
	}{
		{"A", "", nil},
		{"A", "x", nil},
		{"A", strings.Repeat("x", 999), nil},
		{"A", strings.Repeat("x", 1000), nil},
		{"A", strings.Repeat("x", 1001), api.ErrValue},
		{"A", strings.Repeat("\n", 1000), nil},
		{"A", strings.Repeat("\n", 1001), api.ErrValue},
		{"A", strings.Repeat("\u00e4", 500), nil},
		{"A", strings.Repeat("\u00e4", 500) + "x", api.ErrValue},
		{"A", "\x00\xff\r\n\u2028", nil},
		{k(32), strings.Repeat("x", 1000), nil},
		{k(32), strings.Repeat("x", 1001), api.ErrValue},
		{k(33), "x", api.ErrKey},
		{k(33), strings.Repeat("x", 1001), api.ErrKey},
		{"", "x", api.ErrKey},
		{"", strings.Repeat("x", 1001), api.ErrKey},
		{" A", "x", api.ErrKey},
		{"\tA", "x", api.ErrKey},
		{"#A", "x", api.ErrKey},
		{"A:", "x", api.ErrKey},
		{":A", "x", api.ErrKey},
		{"A\n", "x", api.ErrKey},
		{"A\nB", "x", api.ErrKey},
		{"A ", "x", nil},
		{"A#", "x", nil},
		{".", ".", nil},
		{"\xff", "\xfe", nil},
		{"\r", "\r", nil},
	} {
		f := api.Field{Key: c.key, Value: c.value}
		if err := fold.Check(f); err != c.want {
			t.Errorf("%.40q: %v", f, err)
		}
		if got, err := fold.Lines(f); err != c.want || (err != nil) != (got == nil) {
			t.Errorf("%.40q: Lines %.40q %v", f, got, err)
		}
		if got, err := fold.Fold(f); err != c.want || (err != nil) != (got == "") {
			t.Errorf("%.40q: Fold %.40q %v", f, got, err)
		}
		holdField(t, f)
	}
}

// P4.1, P4.2: fields and their lines, written out: the chapter's example, spaces, dots and blanks.
func TestLinesWrittenOut(t *testing.T) {
	for _, c := range []struct {
		key, value string
		want       []string
	}{
		{"A", "x\n\n.y", []string{"A: x", " .", " ..y"}},
		{"A", "", []string{"A:"}},
		{"A", "x", []string{"A: x"}},
		{"A", " ", []string{"A:  "}},
		{"A", "\t", []string{"A: \t"}},
		{"A", " x ", []string{"A:  x "}},
		{"A", ".", []string{"A: ."}},
		{"A", ".x", []string{"A: .x"}},
		{"A", ":", []string{"A: :"}},
		{"A", "#", []string{"A: #"}},
		{"A", "\n", []string{"A:", " ."}},
		{"A", "\n\n", []string{"A:", " .", " ."}},
		{"A", "x\n", []string{"A: x", " ."}},
		{"A", "\nx", []string{"A:", " x"}},
		{"A", "x\n ", []string{"A: x", " . "}},
		{"A", "x\n\t", []string{"A: x", " .\t"}},
		{"A", "x\n \t ", []string{"A: x", " . \t "}},
		{"A", "x\n y", []string{"A: x", "  y"}},
		{"A", "x\n\ty", []string{"A: x", " \ty"}},
		{"A", "x\n .", []string{"A: x", "  ."}},
		{"A", "x\n\t.y", []string{"A: x", " \t.y"}},
		{"A", "x\n.", []string{"A: x", " .."}},
		{"A", "x\n..", []string{"A: x", " ..."}},
		{"A", "x\n. y", []string{"A: x", " .. y"}},
		{"A", "x\ny.", []string{"A: x", " y."}},
		{"A", "x\n#y", []string{"A: x", " #y"}},
		{"A", "x\nB: y", []string{"A: x", " B: y"}},
		{"A", "x\r\ny\r", []string{"A: x\r", " y\r"}},
		{"A", "x\n\r", []string{"A: x", " \r"}},
		{"A", "x\n\x0b\n\u00a0\n\x00", []string{"A: x", " \x0b", " \u00a0", " \x00"}},
		{"a b ", "x", []string{"a b : x"}},
		{"\u00e4", "\u00f6\n\xff", []string{"\u00e4: \u00f6", " \xff"}},
		{k(32), "x\ny", []string{k(32) + ": x", " y"}},
	} {
		f := api.Field{Key: c.key, Value: c.value}
		got, err := fold.Lines(f)
		if !slices.Equal(got, c.want) || err != nil {
			t.Errorf("%q: %q %v", f, got, err)
		}
		if text, err := fold.Fold(f); text != strings.Join(c.want, "\n")+"\n" || err != nil {
			t.Errorf("%q: as text %q %v", f, text, err)
		}
		if again, err := fold.Unfold(c.want...); again != f || err != nil {
			t.Errorf("%q: again %q %v", f, again, err)
		}
		if !fold.Plain(c.want...) {
			t.Errorf("%q: %q isn't plain", f, c.want)
		}
		holdField(t, f)
	}
}

// P4.1: what lines say that are no field's own lines: other blanks, no space, a dot too many.
func TestUnfoldNotPlain(t *testing.T) {
	for _, c := range []struct {
		list  []string
		value string
	}{
		{[]string{"A: "}, ""},
		{[]string{"A:x"}, "x"},
		{[]string{"A:\tx"}, "\tx"},
		{[]string{"A:\t"}, "\t"},
		{[]string{"A::"}, ":"},
		{[]string{"A:.x"}, ".x"},
		{[]string{"A:#"}, "#"},
		{[]string{"A: ", " x"}, "\nx"},
		{[]string{"A: x", "\ty"}, "x\ny"},
		{[]string{"A: x", "\t."}, "x\n"},
		{[]string{"A: x", "\t..y"}, "x\n.y"},
		{[]string{"A: x", "\t\ty"}, "x\n\ty"},
		{[]string{"A: x", " .y"}, "x\ny"},
		{[]string{"A: x", " . y"}, "x\n y"},
		{[]string{"A: x", " .\t#"}, "x\n\t#"},
		{[]string{"A: x", " y", " .z"}, "x\ny\nz"},
		{[]string{"A: x", " .y", " z"}, "x\ny\nz"},
		{[]string{"A:x", " ."}, "x\n"},
	} {
		want := api.Field{Key: "A", Value: c.value}
		if got, err := fold.Unfold(c.list...); got != want || err != nil {
			t.Errorf("%q: %q %v", c.list, got, err)
		}
		if fold.Plain(c.list...) {
			t.Errorf("%q: plain", c.list)
		}
		holdLines(t, c.list...)
	}
}

// P4.1: lines that aren't of the kinds of a field's lines: wherever the wrong one stands, and also where the value is too long.
func TestUnfoldForm(t *testing.T) {
	long := strings.Repeat("x", 1001)
	for _, list := range [][]string{
		nil,
		{},
		{""},
		{" "},
		{"\t"},
		{"A"},
		{":"},
		{": x"},
		{"#A: x"},
		{" A: x"},
		{"\tA: x"},
		{" x"},
		{k(33) + ": x"},
		{"A: x\n"},
		{"A: x\n y"},
		{"A\n: x"},
		{"\nA: x"},
		{"A: x", ""},
		{"A: x", " "},
		{"A: x", "\t"},
		{"A: x", " \t "},
		{"A: x", "y"},
		{"A: x", "."},
		{"A: x", "#y"},
		{"A: x", "B: y"},
		{"A: x", "A: x"},
		{"A: x", " y\n"},
		{"A: x", " \ny"},
		{"A: x", "\n"},
		{"A: x", "\n y"},
		{"A: x", " y", "", " z"},
		{"A: x", " y", "B: z"},
		{"A: x", " y", "#z", " z"},
		{" x", "A: x"},
		{"", "A: x"},
		{"#", "A: x"},
		{"A: " + long, ""},
		{"A: " + long, "B: x"},
		{"A: " + long + "\n"},
		{"A: x", " " + long, "#"},
		{" " + long},
		{long + ": x"},
	} {
		if got, err := fold.Unfold(list...); got != (api.Field{}) || err != api.ErrForm {
			t.Errorf("%.60q: %.60q %v", list, got, err)
		}
		if fold.Plain(list...) {
			t.Errorf("%.60q: plain", list)
		}
		holdLines(t, list...)
	}
	if got, err := fold.Unfold(); got != (api.Field{}) || err != api.ErrForm || fold.Plain() {
		t.Error("no lines:", got, err)
	}
}

// P4.1: a value of 1000 bytes is said, one of 1001 isn't: its line ends count, and what isn't said of the lines doesn't.
func TestUnfoldValueEdges(t *testing.T) {
	x := func(n int) string { return strings.Repeat("x", n) }
	dots := slices.Repeat([]string{" ."}, 1000)
	for _, c := range []struct {
		list []string
		size int
	}{
		{[]string{k(32) + ": " + x(1000)}, 1000},
		{[]string{k(32) + ": " + x(1001)}, 1001},
		{[]string{"A:" + x(1000)}, 1000},
		{[]string{"A:" + x(1001)}, 1001},
		{[]string{"A:  " + x(999)}, 1000},
		{[]string{"A:  " + x(1000)}, 1001},
		{[]string{"A: " + x(998), " y"}, 1000},
		{[]string{"A: " + x(999), " y"}, 1001},
		{[]string{"A: " + x(999), " ."}, 1000},
		{[]string{"A: " + x(1000), " ."}, 1001},
		{[]string{"A:", " " + x(999)}, 1000},
		{[]string{"A:", " " + x(1000)}, 1001},
		{[]string{"A:", " ." + x(999)}, 1000},
		{[]string{"A:", " ." + x(1000)}, 1001},
		{[]string{"A: " + x(500), "\t" + x(249), " .." + x(248)}, 1000},
		{[]string{"A: " + x(500), "\t" + x(249), " .." + x(249)}, 1001},
		{append([]string{"A:"}, dots...), 1000},
		{append([]string{"A: x"}, dots...), 1001},
		{append([]string{"A: "}, dots[1:]...), 999},
	} {
		got, err := fold.Unfold(c.list...)
		if c.size > 1000 && (got != (api.Field{}) || err != api.ErrValue) {
			t.Errorf("%.60q: %.60q %v", c.list, got, err)
		}
		if c.size <= 1000 && (len(got.Value) != c.size || err != nil) {
			t.Errorf("%.60q: %d bytes, %v", c.list, len(got.Value), err)
		}
		holdLines(t, c.list...)
	}
}

// P4.1, P4.2: all short values, with each of some keys.
func TestAllShortValues(t *testing.T) {
	for _, value := range texts("a. \t\n", 6) {
		holdField(t, api.Field{Key: "A", Value: value})
	}
	for _, value := range texts("a.: #\n", 3) {
		for _, key := range texts("A: \t#.\n", 3) {
			holdField(t, api.Field{Key: key, Value: value})
		}
	}
}

// P4.1: all short lists of short lines.
func TestAllShortLines(t *testing.T) {
	for _, first := range texts("A: .\t#\n", 5) {
		holdLines(t, first)
	}
	short := texts("A: .\t#\n", 3)
	for _, first := range append(texts("A: .", 3), "A: x", "A: x\n") {
		for _, second := range short {
			holdLines(t, first, second)
		}
	}
	few := texts("A: .\n", 2)
	for _, second := range few {
		for _, third := range few {
			for _, fourth := range append(few, " ..", " .A", "\t.") {
				holdLines(t, "A: x", second, third, fourth)
			}
		}
	}
}

// P4.1: every byte, as a key, as a value, and at the beginning of a line.
func TestEachByte(t *testing.T) {
	for b := range 256 {
		x := string([]byte{byte(b)})
		for _, key := range []string{x, "A" + x, x + "A"} {
			for _, value := range []string{"", x, x + "v", "v" + x, "v\n" + x, "v\n" + x + "w", "\n." + x, "\n" + x + "\n"} {
				holdField(t, api.Field{Key: key, Value: value})
			}
		}
		for _, line := range []string{x, x + ".", x + "v", x + " v", " " + x, " ." + x, "\t" + x + "v"} {
			holdLines(t, "A: v", line)
			holdLines(t, line+":", line)
			holdLines(t, "A:"+line)
		}
	}
}

// randomText is a text of up to n bytes of an alphabet.
func randomText(r *rand.Rand, alphabet string, n int) string {
	b := make([]byte, r.IntN(n+1))
	for i := range b {
		b[i] = alphabet[r.IntN(len(alphabet))]
	}
	return string(b)
}

// P4.1, P4.2: long fields, and lists of lines, as they come.
func TestRandom(t *testing.T) {
	r := rand.New(rand.NewPCG(4, 1))
	for range 5000 {
		holdField(t, api.Field{Key: "A" + randomText(r, "Ab -", 33), Value: randomText(r, "ab. \t\n\n\r\xff", 1020)})
	}
	for range 5000 {
		list := []string{"A:" + randomText(r, " \t.x", 20)}
		for range r.IntN(12) {
			list = append(list, " "+randomText(r, " \t.x", 100)+"y")
		}
		if at := r.IntN(3 * len(list)); at < len(list) {
			list[at] = randomText(r, " \tA:.", 5)
		}
		holdLines(t, list...)
	}
}

// P4.1: fields are folded one behind the other; keys may come again, and there may be none.
func TestFoldWrittenOut(t *testing.T) {
	for _, c := range []struct {
		list []api.Field
		want string
	}{
		{nil, ""},
		{[]api.Field{}, ""},
		{fields("A", ""), "A:\n"},
		{fields("A", "1", "B", "2\n3", "A", "", "A", "1"), "A: 1\nB: 2\n 3\nA:\nA: 1\n"},
		{fields("A", "\n", "B", "\n "), "A:\n .\nB:\n . \n"},
	} {
		if got, err := fold.Fold(c.list...); got != c.want || err != nil {
			t.Errorf("%q: %q %v", c.list, got, err)
		}
	}
	if got, err := fold.Fold(); got != "" || err != nil {
		t.Errorf("none: %q %v", got, err)
	}
	many := slices.Repeat([]api.Field{{Key: "A", Value: "x\n\n.y"}}, 2000)
	if got, err := fold.Fold(many...); got != strings.Repeat("A: x\n .\n ..y\n", 2000) || err != nil {
		t.Error("many:", len(got), err)
	}
}

// P4.1: the error is that of the first field that isn't good, whichever it is, and no text is beside it.
func TestFoldFirstError(t *testing.T) {
	good := api.Field{Key: "A", Value: "x"}
	key := api.Field{Key: "A:", Value: "x"}
	value := api.Field{Key: "A", Value: strings.Repeat("x", 1001)}
	both := api.Field{Value: value.Value}
	for i, c := range []struct {
		list []api.Field
		want error
	}{
		{[]api.Field{key}, api.ErrKey},
		{[]api.Field{value}, api.ErrValue},
		{[]api.Field{both}, api.ErrKey},
		{[]api.Field{key, good}, api.ErrKey},
		{[]api.Field{good, key}, api.ErrKey},
		{[]api.Field{good, value, good}, api.ErrValue},
		{[]api.Field{good, value, key}, api.ErrValue},
		{[]api.Field{good, good, key, value}, api.ErrKey},
		{[]api.Field{value, both}, api.ErrValue},
		{[]api.Field{{}, value}, api.ErrKey},
	} {
		if got, err := fold.Fold(c.list...); got != "" || err != c.want {
			t.Error(i, got, err)
		}
	}
}

// P4.2: what is folded, taken as a text's lines, is unfolded to the same fields; of each line the kind is a field's.
func TestFoldedText(t *testing.T) {
	r := rand.New(rand.NewPCG(4, 2))
	for range 1000 {
		var list []api.Field
		for range r.IntN(6) {
			list = append(list, api.Field{Key: "K" + randomText(r, "k.# ", 31), Value: randomText(r, "a.: \t\n\n#", 30)})
		}
		text, err := fold.Fold(list...)
		if want, _ := plainFold(list); text != want || err != nil {
			t.Errorf("%q: %q %v", list, text, err)
		}
		var parts [][]string
		for line := range lines.Split(text) {
			switch kind := lines.Kind(line.Text); {
			case kind == lines.Pair:
				parts = append(parts, []string{line.Text})
			case kind == lines.More && len(parts) > 0:
				parts[len(parts)-1] = append(parts[len(parts)-1], line.Text)
			default:
				t.Errorf("%q: line %q", list, line.Text)
			}
			if !line.Ended {
				t.Errorf("%q: no line end behind %q", list, line.Text)
			}
		}
		var again []api.Field
		for _, part := range parts {
			f, err := fold.Unfold(part...)
			if err != nil || !fold.Plain(part...) {
				t.Errorf("%q: %q: %v", list, part, err)
			}
			again = append(again, f)
		}
		if !slices.Equal(again, list) {
			t.Errorf("%q: again %q", list, again)
		}
	}
}

// P4.3: what is handed in stays as it was, with its spare room.
func TestArgumentsStay(t *testing.T) {
	room := []string{"A:x", "\t.", " .y", "behind"}
	for n := range len(room) {
		fold.Unfold(room[:n]...)
		fold.Plain(room[:n]...)
	}
	if !slices.Equal(room, []string{"A:x", "\t.", " .y", "behind"}) {
		t.Error(room)
	}
	list := fields("A", "x\n\ny", "B", ".", "behind", "\n")
	for n := range len(list) {
		fold.Fold(list[:n]...)
	}
	if !slices.Equal(list, fields("A", "x\n\ny", "B", ".", "behind", "\n")) {
		t.Error(list)
	}
}

// P4.3: an answer is new: whoever changes it, or what was handed in, changes nothing that is answered.
func TestAnswersAreNew(t *testing.T) {
	f := api.Field{Key: "A", Value: "x\n\ny"}
	one, _ := fold.Lines(f)
	two, _ := fold.Lines(f)
	for i := range one[:cap(one)] {
		one[:cap(one)][i] = "changed"
	}
	if !slices.Equal(two, []string{"A: x", " .", " y"}) {
		t.Error(two)
	}
	if three, _ := fold.Lines(f); !slices.Equal(three, []string{"A: x", " .", " y"}) {
		t.Error(three)
	}
	said, _ := fold.Unfold(two...)
	clear(two)
	if said != f {
		t.Error(said)
	}
	if !fold.Plain("A: x", " .", " y") || fold.Plain(two...) {
		t.Error("what was handed in was kept")
	}
}
