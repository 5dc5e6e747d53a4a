package amend_test

import (
	"errors"
	"regexp"
	"slices"
	"strconv"
	"strings"
	"testing"

	"stanzakeep/amend"
	"stanzakeep/api"
	"stanzakeep/edit"
)

// The chapter's words in the plainest way there is: the tests hold the calls against these.

// plainWords are the words of the kinds.
var plainWords = map[string]int{"replace": api.Replace, "delete": api.Delete, "insert": api.Insert}

// plainLine is Line.
func plainLine(x api.Edit) string {
	for word, kind := range plainWords {
		if kind == x.Kind {
			return " " + word + " " + strconv.FormatInt(int64(x.ID), 10)
		}
	}
	return ""
}

// blank tells whether a line of a value is empty, or blanks alone.
func blank(line string) bool {
	return strings.Trim(line, " \t") == ""
}

// plainText is a good batch's text.
func plainText(batch []api.Edit) string {
	var text strings.Builder
	for _, x := range batch {
		text.WriteString(plainLine(x) + "\n")
		for _, f := range x.Fields {
			for i, line := range strings.Split(f.Value, "\n") {
				switch {
				case i == 0 && line == "":
					text.WriteString("  " + f.Key + ":\n")
				case i == 0:
					text.WriteString("  " + f.Key + ": " + line + "\n")
				case blank(line) || line[0] == '.':
					text.WriteString("   ." + line + "\n")
				default:
					text.WriteString("   " + line + "\n")
				}
			}
		}
	}
	return text.String()
}

// plainFirst is an edit's first line, its word and its ID.
var plainFirst = regexp.MustCompile(`^ (replace|delete|insert) (0|-?[1-9][0-9]*)$`)

// plainMore is what a further line of a value, without the blanks ahead of it, says; and whether it is one.
func plainMore(line string) (string, bool) {
	if rest, ok := strings.CutPrefix(line, "."); ok {
		return rest, blank(rest) || rest[0] == '.'
	}
	return line, !blank(line)
}

// plainTake puts what a line says behind a batch, and tells whether it may stand there.
func plainTake(batch []api.Edit, line string) ([]api.Edit, bool) {
	if first := plainFirst.FindStringSubmatch(line); first != nil {
		id, err := strconv.ParseInt(first[2], 10, 64)
		return append(batch, api.Edit{Kind: plainWords[first[1]], ID: int(id)}), err == nil
	}
	rest, ok := strings.CutPrefix(line, "  ")
	if !ok || len(batch) == 0 {
		return nil, false
	}
	last := &batch[len(batch)-1]
	if goesOn, ok := strings.CutPrefix(rest, " "); ok {
		more, ok := plainMore(goesOn)
		if !ok || len(last.Fields) == 0 {
			return nil, false
		}
		last.Fields[len(last.Fields)-1].Value += "\n" + more
		return batch, true
	}
	key, value, ok := strings.Cut(rest, ":")
	if !ok || len(key) < 1 || len(key) > 32 || strings.Contains("\t#", key[:1]) || value != "" && (value[0] != ' ' || value == " ") {
		return nil, false
	}
	last.Fields = append(last.Fields, api.Field{Key: key, Value: strings.TrimPrefix(value, " ")})
	return batch, true
}

// plainDecode is Decode: the batch, and whether the text is one of a good batch.
func plainDecode(text string) ([]api.Edit, bool) {
	rest, ended := strings.CutSuffix(text, "\n")
	if !ended || len(text) > 50000 {
		return nil, false
	}
	var batch []api.Edit
	for line := range strings.SplitSeq(rest, "\n") {
		ok := false
		if batch, ok = plainTake(batch, line); !ok {
			return nil, false
		}
	}
	if len(batch) > 40 {
		return nil, false
	}
	for _, x := range batch {
		long := func(f api.Field) bool { return len(f.Value) > 1000 }
		if (x.Kind == api.Delete) != (len(x.Fields) == 0) || len(x.Fields) > 40 || slices.ContainsFunc(x.Fields, long) {
			return nil, false
		}
	}
	return batch, true
}

// sameError tells whether two errors are the same: both bare ones, or both at the same place, with nothing but a bare one there.
func sameError(a, b error) bool {
	var f, g *api.Fault
	if errors.As(a, &f) != errors.As(b, &g) {
		return false
	}
	if f != nil {
		return a == error(f) && f.At == g.At && f.Err == g.Err
	}
	return a == b
}

// holdText holds what Decode says of a text against the words, and tells whether it is one of a good batch.
func holdText(t *testing.T, text string) bool {
	t.Helper()
	want, good := plainDecode(text)
	batch, err := amend.Decode(text)
	if !good {
		if err != api.ErrForm || len(batch) > 0 {
			t.Errorf("%.200q: %.200v %v, not %v", text, batch, err, api.ErrForm)
		}
		return false
	}
	if err != nil || !edit.Same(batch, want) {
		t.Errorf("%.200q: %.200v %v, not %.200v", text, batch, err, want)
		return false
	}
	if again, err := amend.Encode(batch...); err != nil || again != text || amend.Length(batch...) != len(text) {
		t.Errorf("%.200q: encoded again it is %.200q %v", text, again, err)
	}
	return true
}

// holdBatch holds all calls with a batch against the words, and tells whether it is good.
func holdBatch(t *testing.T, batch []api.Edit) bool {
	t.Helper()
	for _, x := range batch {
		if got := amend.Line(x); got != plainLine(x) {
			t.Errorf("Line %.200v: %q, not %q", x, got, plainLine(x))
		}
	}
	text, err := amend.Encode(batch...)
	length := amend.Length(batch...)
	if want := edit.Check(batch...); want != nil {
		if text != "" || !sameError(err, want) || length != 0 {
			t.Errorf("%.200v: %.200q %v %d, not %v", batch, text, err, length, want)
		}
		return false
	}
	if want := plainText(batch); err != nil || text != want || length != len(want) {
		t.Errorf("%.200v: %.200q %v %d, not %.200q", batch, text, err, length, want)
		return false
	}
	if strings.Count("\n"+text, "\n ") != strings.Count(text, "\n") {
		t.Errorf("%.200q: a line of it doesn't begin with a space", text)
	}
	if holdText(t, text) != (len(text) <= 50000) {
		t.Errorf("%.200q: of %d bytes", text, len(text))
	}
	if back, err := amend.Decode(text); err == nil && !edit.Same(back, batch) {
		t.Errorf("%.200q: %.200v, not %.200v", text, back, batch)
	}
	return true
}

// fields are fields of these keys and values, by turns.
func fields(said ...string) []api.Field {
	var all []api.Field
	for pair := range slices.Chunk(said, 2) {
		all = append(all, api.Field{Key: pair[0], Value: pair[1]})
	}
	return all
}

// replace, drop and insert are edits of each kind; the fields are keys and values, by turns.
func replace(id int, said ...string) api.Edit {
	return api.Edit{Kind: api.Replace, ID: id, Fields: fields(said...)}
}
func drop(id int) api.Edit { return api.Edit{Kind: api.Delete, ID: id} }
func insert(id int, said ...string) api.Edit {
	return api.Edit{Kind: api.Insert, ID: id, Fields: fields(said...)}
}

// x is a text of n bytes.
func x(n int) string {
	return strings.Repeat("x", n)
}
