package lines_test

import (
	"slices"
	"strings"
	"testing"

	"stanzakeep/lines"
)

// The chapter's words, byte by byte, in the plainest way there is: the tests hold the calls against these.

// plainSplit is a text's lines, in order.
func plainSplit(text string) []lines.Line {
	var all []lines.Line
	begin := 0
	for i := range len(text) {
		if text[i] == 0x0a {
			all = append(all, lines.Line{No: len(all), At: begin, Text: text[begin:i], Ended: true})
			begin = i + 1
		}
	}
	if begin < len(text) {
		all = append(all, lines.Line{No: len(all), At: begin, Text: text[begin:]})
	}
	return all
}

// plainKey tells whether a key is good.
func plainKey(key string) bool {
	for i := range len(key) {
		if key[i] == ':' || key[i] == 0x0a {
			return false
		}
	}
	return len(key) >= 1 && len(key) <= 32 && key[0] != ' ' && key[0] != 0x09 && key[0] != '#'
}

// plainKind is a line's kind, and where a Pair's colon stands.
func plainKind(line string) (int, int) {
	others, colon := 0, -1
	for i := range len(line) {
		switch line[i] {
		case 0x0a:
			return lines.Odd, -1
		case ' ', 0x09:
			continue
		case ':':
			if colon < 0 {
				colon = i
			}
		}
		others++
	}
	switch {
	case others == 0:
		return lines.Empty, -1
	case line[0] == '#':
		return lines.Note, -1
	case line[0] == ' ' || line[0] == 0x09:
		return lines.More, -1
	case colon >= 0 && plainKey(line[:colon]):
		return lines.Pair, colon
	}
	return lines.Odd, -1
}

// plainWhole is how many of the first n bytes stand in ended lines whose line ends are among them.
func plainWhole(text string, n int) int {
	whole := 0
	for _, line := range plainSplit(text) {
		if behind := line.At + len(line.Text) + 1; line.Ended && behind <= n {
			whole = behind
		}
	}
	return whole
}

// plainIndent is a text with by ahead of each line.
func plainIndent(text, by string) string {
	out := ""
	for i := range len(text) {
		if i == 0 || text[i-1] == 0x0a {
			out += by
		}
		out += text[i : i+1]
	}
	return out
}

// plainDedent is a text without by ahead of each line.
func plainDedent(text, by string) (string, bool) {
	out := ""
	for _, line := range plainSplit(text) {
		if len(line.Text) < len(by) || line.Text[:len(by)] != by {
			return "", false
		}
		out += line.Text[len(by):]
		if line.Ended {
			out += "\n"
		}
	}
	return out, true
}

// eachText hands over all texts of up to n bytes of an alphabet.
func eachText(alphabet string, n int, hand func(string)) {
	hand("")
	if n == 0 {
		return
	}
	for i := range len(alphabet) {
		eachText(alphabet, n-1, func(text string) { hand(alphabet[i:i+1] + text) })
	}
}

// all gathers an iterator's lines.
func all(text string) []lines.Line {
	return slices.Collect(lines.Split(text))
}

// P2.1: the kinds' numbers, as the chapter counts them.
func TestKindsNumbers(t *testing.T) {
	kinds := []int{lines.Empty, lines.Note, lines.More, lines.Pair, lines.Odd}
	if !slices.Equal(kinds, []int{1, 2, 3, 4, 5}) {
		t.Error(kinds)
	}
}

// P2.1: lines with number, place, text and end, written out.
func TestSplitWrittenOut(t *testing.T) {
	for _, c := range []struct {
		text string
		want []lines.Line
	}{
		{"", nil},
		{"\n", []lines.Line{{0, 0, "", true}}},
		{"a", []lines.Line{{0, 0, "a", false}}},
		{"a\n", []lines.Line{{0, 0, "a", true}}},
		{"\na", []lines.Line{{0, 0, "", true}, {1, 1, "a", false}}},
		{"\n\n", []lines.Line{{0, 0, "", true}, {1, 1, "", true}}},
		{"ab\n\nc", []lines.Line{{0, 0, "ab", true}, {1, 3, "", true}, {2, 4, "c", false}}},
		{"A: 1\n \n", []lines.Line{{0, 0, "A: 1", true}, {1, 5, " ", true}}},
		{"a\r\nb\rc\x00\u2028\x85\x0b\x0c", []lines.Line{{0, 0, "a\r", true}, {1, 3, "b\rc\x00\u2028\x85\x0b\x0c", false}}},
		{"\u00e4\xff\n\xfe", []lines.Line{{0, 0, "\u00e4\xff", true}, {1, 4, "\xfe", false}}},
	} {
		if got := all(c.text); !slices.Equal(got, c.want) {
			t.Errorf("%q: %v", c.text, got)
		}
		if got := lines.Count(c.text); got != len(c.want) {
			t.Errorf("%q: %d lines", c.text, got)
		}
	}
}

// P2.1, P2.2: the lines of all short texts are as told, and make the text again.
func TestSplitAllShort(t *testing.T) {
	eachText("a\n ", 8, func(text string) {
		got := all(text)
		if !slices.Equal(got, plainSplit(text)) {
			t.Errorf("%q: %v", text, got)
		}
		if lines.Count(text) != len(got) {
			t.Errorf("%q: %d lines", text, lines.Count(text))
		}
		again := ""
		for _, line := range got {
			again += line.Text
			if line.Ended {
				again += "\n"
			}
		}
		if again != text {
			t.Errorf("%q: %q", text, again)
		}
	})
}

// P2.1: long texts, of one line and of many.
func TestSplitLong(t *testing.T) {
	for _, text := range []string{
		strings.Repeat("x", 120000),
		strings.Repeat("\n", 120000),
		strings.Repeat("key: value\n more\n\n", 7000),
		strings.Repeat("x", 60000) + "\n" + strings.Repeat("y", 60000),
	} {
		if want := plainSplit(text); !slices.Equal(all(text), want) || lines.Count(text) != len(want) {
			t.Errorf("%.20q", text)
		}
	}
}

// P2.1: an iterator that is left ends, whichever line it is left at.
func TestSplitIsLeft(t *testing.T) {
	text := "a\n\nb\nc"
	for stop := range 4 {
		seen := 0
		for line := range lines.Split(text) {
			if line.No != seen {
				t.Error(stop, line)
			}
			seen++
			if line.No == stop {
				break
			}
		}
		if seen != stop+1 {
			t.Error(stop, seen)
		}
	}
	asked := 0
	lines.Split(text)(func(lines.Line) bool {
		asked++
		return false
	})
	if asked != 1 {
		t.Error("asked again:", asked)
	}
}

// P2.1: an iterator begins at the first line whenever it is gone through: again, when it was left, and within itself.
func TestSplitAgain(t *testing.T) {
	text := "a\nb\n\nc"
	want := plainSplit(text)
	seq := lines.Split(text)
	for range seq {
		break
	}
	for range 2 {
		if got := slices.Collect(seq); !slices.Equal(got, want) {
			t.Error(got)
		}
	}
	outer := 0
	for line := range seq {
		if line != want[outer] {
			t.Error(outer, line)
		}
		outer++
		if got := slices.Collect(seq); !slices.Equal(got, want) {
			t.Error(outer, got)
		}
	}
	if outer != len(want) {
		t.Error(outer)
	}
}

// P2.1: kinds, keys and rests, written out: the chapter's examples and the table's edges.
func TestKindsWrittenOut(t *testing.T) {
	long := strings.Repeat("k", 32)
	for _, c := range []struct {
		line      string
		kind      int
		key, rest string
	}{
		{"a: b", lines.Pair, "a", " b"},
		{"\tb", lines.More, "", ""},
		{"\t", lines.Empty, "", ""},
		{"ab", lines.Odd, "", ""},
		{"", lines.Empty, "", ""},
		{" ", lines.Empty, "", ""},
		{" \t\t ", lines.Empty, "", ""},
		{"#", lines.Note, "", ""},
		{"##", lines.Note, "", ""},
		{"# a: b", lines.Note, "", ""},
		{"#: b", lines.Note, "", ""},
		{" #", lines.More, "", ""},
		{" a: b", lines.More, "", ""},
		{"\ta: b", lines.More, "", ""},
		{"  .", lines.More, "", ""},
		{" :", lines.More, "", ""},
		{" \r", lines.More, "", ""},
		{" \x00", lines.More, "", ""},
		{" \u00a0", lines.More, "", ""},
		{"\r", lines.Odd, "", ""},
		{"\u00a0", lines.Odd, "", ""},
		{"\x0b", lines.Odd, "", ""},
		{"\x0c:", lines.Pair, "\x0c", ""},
		{"\r: x", lines.Pair, "\r", " x"},
		{"\u00a0:", lines.Pair, "\u00a0", ""},
		{"\x00:", lines.Pair, "\x00", ""},
		{"\xff\xfe:\xfd", lines.Pair, "\xff\xfe", "\xfd"},
		{"a:", lines.Pair, "a", ""},
		{"a:b", lines.Pair, "a", "b"},
		{"a::", lines.Pair, "a", ":"},
		{"a: b: c", lines.Pair, "a", " b: c"},
		{"a:\t", lines.Pair, "a", "\t"},
		{"a b\t:  c ", lines.Pair, "a b\t", "  c "},
		{"a#: x", lines.Pair, "a#", " x"},
		{"%amend: x", lines.Pair, "%amend", " x"},
		{"%amend", lines.Odd, "", ""},
		{":", lines.Odd, "", ""},
		{":a", lines.Odd, "", ""},
		{": a:", lines.Odd, "", ""},
		{"::", lines.Odd, "", ""},
		{long + ":", lines.Pair, long, ""},
		{long + ": v:w", lines.Pair, long, " v:w"},
		{long + "k:", lines.Odd, "", ""},
		{long, lines.Odd, "", ""},
		{long + "kk: a: b", lines.Odd, "", ""},
		{"a:" + strings.Repeat("v", 5000), lines.Pair, "a", strings.Repeat("v", 5000)},
		{strings.Repeat("\u00e4", 16) + ":", lines.Pair, strings.Repeat("\u00e4", 16), ""},
		{strings.Repeat("\u00e4", 16) + "k:", lines.Odd, "", ""},
	} {
		if got := lines.Kind(c.line); got != c.kind {
			t.Errorf("%q: kind %d", c.line, got)
		}
		key, rest, ok := lines.Cut(c.line)
		if key != c.key || rest != c.rest || ok != (c.kind == lines.Pair) {
			t.Errorf("%q: %q %q %v", c.line, key, rest, ok)
		}
	}
}

// P2.1: a text with a line end in it is Odd, wherever the line end stands, and isn't cut.
func TestKindOfLineEnds(t *testing.T) {
	for _, line := range []string{"", " ", "\t ", "#", "# x", " a", "\tb c", "a:", "a: b", "ab", ":"} {
		for at := range len(line) + 1 {
			text := line[:at] + "\n" + line[at:]
			if got := lines.Kind(text); got != lines.Odd {
				t.Errorf("%q: kind %d", text, got)
			}
			if key, rest, ok := lines.Cut(text); key != "" || rest != "" || ok {
				t.Errorf("%q: %q %q %v", text, key, rest, ok)
			}
		}
	}
}

// P2.1: the kind, the key and what is cut of all short lines.
func TestKindAllShort(t *testing.T) {
	eachText("a: \t#\n", 6, func(line string) {
		kind, colon := plainKind(line)
		if got := lines.Kind(line); got != kind {
			t.Errorf("%q: kind %d", line, got)
		}
		if got := lines.Key(line); got != plainKey(line) {
			t.Errorf("%q: key %v", line, got)
		}
		wantKey, wantRest := "", ""
		if kind == lines.Pair {
			wantKey, wantRest = line[:colon], line[colon+1:]
		}
		key, rest, ok := lines.Cut(line)
		if key != wantKey || rest != wantRest || ok != (kind == lines.Pair) {
			t.Errorf("%q: %q %q %v", line, key, rest, ok)
		}
	})
}

// P2.1: all bytes, at the beginning, within and at the end of keys and lines.
func TestEachByte(t *testing.T) {
	for b := range 256 {
		x := string([]byte{byte(b)})
		for _, key := range []string{x, x + "k", "k" + x, "k" + x + "k", x + x} {
			if got := lines.Key(key); got != plainKey(key) {
				t.Errorf("%q: key %v", key, got)
			}
			for _, line := range []string{key, key + ":", key + ": v", " " + key, "\t" + key, "#" + key, "a:" + key} {
				want, _ := plainKind(line)
				if got := lines.Kind(line); got != want {
					t.Errorf("%q: kind %d, not %d", line, got, want)
				}
			}
		}
	}
}

// P2.1: keys of all lengths around the greatest one, and where a wrong byte stands.
func TestKeyEdges(t *testing.T) {
	for n := range 70 {
		key := strings.Repeat("k", n)
		if got := lines.Key(key); got != (n >= 1 && n <= 32) {
			t.Error(n, got)
		}
		for at := range n {
			for _, wrong := range []string{":", "\n"} {
				if lines.Key(key[:at] + wrong + key[at+1:]) {
					t.Errorf("%d bytes, at %d %q", n, at, wrong)
				}
			}
			for _, first := range []string{" ", "\t", "#"} {
				if got := lines.Key(key[:at] + first + key[at+1:]); got != (at > 0 && n <= 32) {
					t.Errorf("%d bytes, at %d %q: %v", n, at, first, got)
				}
			}
		}
	}
	for _, key := range []string{"A", "a b", " ", "a ", "%x", "!", ".", "-1", "\r", "\x00", "\u00e4", "\xff"} {
		if got := lines.Key(key); got != (key != " ") {
			t.Errorf("%q: %v", key, got)
		}
	}
}

// P2.1: whole lines up to a place, written out, with places beyond both ends.
func TestWholeWrittenOut(t *testing.T) {
	least, most := -1<<63, 1<<63-1
	for _, c := range []struct {
		text    string
		n, want int
	}{
		{"", 0, 0}, {"", 1, 0}, {"", -1, 0}, {"", least, 0}, {"", most, 0},
		{"\n", 0, 0}, {"\n", 1, 1}, {"\n", 2, 1}, {"\n", -1, 0}, {"\n", most, 1},
		{"abc", 2, 0}, {"abc", 3, 0}, {"abc", most, 0},
		{"ab\ncd", 2, 0}, {"ab\ncd", 3, 3}, {"ab\ncd", 4, 3}, {"ab\ncd", 5, 3}, {"ab\ncd", 6, 3}, {"ab\ncd", most, 3}, {"ab\ncd", least, 0},
		{"ab\ncd\n", 5, 3}, {"ab\ncd\n", 6, 6}, {"ab\ncd\n", 7, 6}, {"ab\ncd\n", most, 6}, {"ab\ncd\n", -6, 0},
	} {
		if got := lines.Whole(c.text, c.n); got != c.want {
			t.Errorf("%q, %d: %d", c.text, c.n, got)
		}
	}
}

// P2.1: whole lines of all short texts, at all places.
func TestWholeAllShort(t *testing.T) {
	eachText("a\n", 9, func(text string) {
		for n := -2; n <= len(text)+2; n++ {
			if got := lines.Whole(text, n); got != plainWhole(text, n) {
				t.Errorf("%q, %d: %d", text, n, got)
			}
		}
	})
}

// P2.1: what is indented, written out.
func TestIndentWrittenOut(t *testing.T) {
	for _, c := range []struct {
		text string
		by   []string
		want string
	}{
		{"", nil, ""},
		{"", []string{" "}, ""},
		{"a\n\nb", nil, "a\n\nb"},
		{"a\n\nb", []string{}, "a\n\nb"},
		{"a\n\nb", []string{"", ""}, "a\n\nb"},
		{"a\n\nb", []string{" "}, " a\n \n b"},
		{"a\n\nb\n", []string{" ", "", "-", "+"}, " -+a\n -+\n -+b\n"},
		{"\n", []string{"  "}, "  \n"},
		{"a\nb", []string{"\n"}, "\na\n\nb"},
		{"\u00e4\xff\n", []string{"\xfe", "\u00e4"}, "\xfe\u00e4\u00e4\xff\n"},
	} {
		if got := lines.Indent(c.text, c.by...); got != c.want {
			t.Errorf("%q by %q: %q", c.text, c.by, got)
		}
	}
	if got := lines.Indent("a\nb"); got != "a\nb" {
		t.Errorf("by none: %q", got)
	}
}

// P2.1: what is dedented, and what isn't, written out.
func TestDedentWrittenOut(t *testing.T) {
	for _, c := range []struct {
		text, by, want string
		ok             bool
	}{
		{"", "", "", true},
		{"", " ", "", true},
		{"", "\n", "", true},
		{"a\n\nb", "", "a\n\nb", true},
		{" a\n  b\n", " ", "a\n b\n", true},
		{" a\n  b\n", "  ", "", false},
		{" ", " ", "", true},
		{" a\n ", " ", "a\n", true},
		{" \n \n", " ", "\n\n", true},
		{" \n\n", " ", "", false},
		{"\n \n", " ", "", false},
		{"\n", " ", "", false},
		{" a\nb", " ", "", false},
		{" a\n b\nc\n", " ", "", false},
		{"xyxya\nxyb", "xy", "xya\nb", true},
		{"xya\nx\n", "xy", "", false},
		{"xya\nx", "xy", "", false},
		{"x", "xy", "", false},
		{"\ta", " ", "", false},
		{"Xa", "x", "", false},
		{"\xffa\n\xff", "\xff", "a\n", true},
		{"\n\n", "\n", "", false},
		{" \n", " \n", "", false},
		{"a\nb", "a\nb", "", false},
	} {
		if got, ok := lines.Dedent(c.text, c.by); got != c.want || ok != c.ok {
			t.Errorf("%q by %q: %q %v", c.text, c.by, got, ok)
		}
	}
}

// P2.1, P2.2: all short texts are indented as told, and dedented again; and dedented as told, or refused.
func TestIndentAllShort(t *testing.T) {
	eachText("a \n", 7, func(text string) {
		for _, by := range []string{"", " ", "  ", "a", " a", "a a", "\t", "aa aa"} {
			indented := lines.Indent(text, by)
			if indented != plainIndent(text, by) {
				t.Errorf("%q by %q: %q", text, by, indented)
			}
			if lines.Indent(text, by[:len(by)/2], "", by[len(by)/2:]) != indented {
				t.Errorf("%q by %q in parts", text, by)
			}
			if got, ok := lines.Dedent(indented, by); got != text || !ok {
				t.Errorf("%q by %q and back: %q %v", text, by, got, ok)
			}
			want, wantOK := plainDedent(text, by)
			got, ok := lines.Dedent(text, by)
			if got != want || ok != wantOK {
				t.Errorf("%q without %q: %q %v", text, by, got, ok)
			}
		}
	})
}

// P2.1, P2.2: long texts and long by are indented and dedented.
func TestIndentLong(t *testing.T) {
	text := strings.Repeat("insert 0\n\n  A: 1\n", 5000) + "end"
	for _, by := range []string{" ", strings.Repeat("-", 100)} {
		indented := lines.Indent(text, by)
		if len(indented) != len(text)+15001*len(by) {
			t.Error(len(indented))
		}
		if got, ok := lines.Dedent(indented, by); got != text || !ok {
			t.Error(len(by), ok)
		}
		if got, ok := lines.Dedent(indented+"\n.", by); got != "" || ok {
			t.Error(len(by), "the last line")
		}
	}
}

// P2.1: texts that are handed in are as they were, spare room and all.
func TestTextsStay(t *testing.T) {
	room := []string{" ", "-", "", "behind"}
	if got := lines.Indent("a\nb", room[:2]...); got != " -a\n -b" {
		t.Errorf("%q", got)
	}
	if !slices.Equal(room, []string{" ", "-", "", "behind"}) {
		t.Error(room)
	}
}
