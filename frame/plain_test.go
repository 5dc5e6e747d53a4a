package frame_test

import (
	"regexp"
	"strconv"
	"strings"
	"sync"
	"testing"

	"stanzakeep/api"
	"stanzakeep/frame"
	"stanzakeep/sum"
)

// The chapter's words in the plainest way there is: the tests hold the calls against these.

// plainGood is Good, byte by byte.
func plainGood(body string) bool {
	if len(body) < 2 || len(body) > 50000 || body[len(body)-1] != 0x0a {
		return false
	}
	for i := range len(body) {
		if (i == 0 || body[i-1] == 0x0a) && body[i] != ' ' {
			return false
		}
	}
	return true
}

// plainRecord is the record of a body, with these figures.
func plainRecord(body, figures string) string {
	n := strconv.FormatInt(int64(len(body)), 10)
	return "%amend " + n + " " + figures + "\n" + body + "%end " + n + "\n"
}

// plainNumbers are the figures of all lengths of bodies, and what these begin with.
var plainNumbers = sync.OnceValues(func() (map[string]int, map[string]bool) {
	whole, begun := map[string]int{}, map[string]bool{}
	for n := 2; n <= 50000; n++ {
		figures := strconv.FormatInt(int64(n), 10)
		whole[figures] = n
		for i := range len(figures) + 1 {
			begun[figures[:i]] = true
		}
	}
	return whole, begun
})

var (
	plainFigured = regexp.MustCompile(`^%amend ([0-9]+) ([0-9a-f]{0,8})$`)
	plainBegun   = regexp.MustCompile(`^%amend ([0-9]*)$`)
	plainHead    = regexp.MustCompile(`^%amend ([0-9]+) ([0-9a-f]{8})$`)
)

// plainHeadBegun tells whether a line is a beginning of a record's first line, or all of it.
func plainHeadBegun(line string) bool {
	whole, begun := plainNumbers()
	if len(line) <= 7 {
		return line == "%amend "[:len(line)]
	}
	if parts := plainBegun.FindStringSubmatch(line); parts != nil {
		return begun[parts[1]]
	}
	parts := plainFigured.FindStringSubmatch(line)
	return parts != nil && whole[parts[1]] > 0
}

// plainBodyBegun tells whether a text of less than n bytes is a beginning of a body of n: its lines begin with spaces, and there is room for what one more line needs at least.
func plainBodyBegun(text string, n int) bool {
	atBegin := true
	for i := range len(text) {
		if atBegin && text[i] != ' ' {
			return false
		}
		atBegin = text[i] == 0x0a
	}
	return !atBegin || n-len(text) >= 2
}

// plainRead is Read.
func plainRead(text string) (int, string, int) {
	line, rest, ended := strings.Cut(text, "\n")
	part := false
	if !ended {
		part = plainHeadBegun(line)
	} else if parts := plainHead.FindStringSubmatch(line); parts != nil {
		whole, _ := plainNumbers()
		n, ok := whole[parts[1]]
		switch {
		case !ok:
		case len(rest) < n:
			part = plainBodyBegun(rest, n)
		case plainGood(rest[:n]):
			body, foot := rest[:n], "%end "+parts[1]+"\n"
			if strings.HasPrefix(rest[n:], foot) {
				if parts[2] == sum.Figures(sum.Sum(body)) {
					return frame.Whole, body, len(line) + 1 + n + len(foot)
				}
				return frame.Odd, "", 0
			}
			part = strings.HasPrefix(foot, rest[n:])
		}
	}
	if part {
		return frame.Part, "", 0
	}
	return frame.Odd, "", 0
}

// holdText holds what Read says of a text against the words, and tells the kind.
func holdText(t *testing.T, text string) int {
	t.Helper()
	kind, body, n := frame.Read(text)
	if wantKind, wantBody, wantN := plainRead(text); kind != wantKind || body != wantBody || n != wantN {
		t.Errorf("%.100q (%d bytes): %d %.100q %d, not %d %.100q %d", text, len(text), kind, body, n, wantKind, wantBody, wantN)
	}
	if kind == frame.Whole {
		if record, err := frame.Record(body); err != nil || record != text[:n] || frame.Length(len(body)) != n {
			t.Errorf("%.100q (%d bytes): the body's record is %.100q %v", text, len(text), record, err)
		}
	}
	return kind
}

// holdBody holds Good, Record and Length of a text against the words, and tells whether it is a body.
func holdBody(t *testing.T, body string) bool {
	t.Helper()
	good := frame.Good(body)
	record, err := frame.Record(body)
	if good != plainGood(body) {
		t.Errorf("%.100q (%d bytes): good %v", body, len(body), good)
	}
	if !plainGood(body) {
		if record != "" || err != api.ErrForm {
			t.Errorf("%.100q (%d bytes): %.100q %v, not %v", body, len(body), record, err, api.ErrForm)
		}
		return false
	}
	if want := plainRecord(body, sum.Figures(sum.Sum(body))); err != nil || record != want {
		t.Errorf("%.100q (%d bytes): %.100q %v, not %.100q", body, len(body), record, err, want)
	}
	if frame.Length(len(body)) != len(record) {
		t.Errorf("%d bytes: a record of %d, not %d", len(body), len(record), frame.Length(len(body)))
	}
	return true
}

// bodyOf is a body of n bytes, of one line, or of more with those of width bytes.
func bodyOf(n, width int) string {
	body := ""
	for n-len(body) >= width+2 {
		body += " " + strings.Repeat("x", width-2) + "\n"
	}
	return body + " " + strings.Repeat("y", n-len(body)-2) + "\n"
}

// eachText hands over all texts of up to n of some pieces.
func eachText(pieces []string, n int, hand func(string)) {
	hand("")
	if n == 0 {
		return
	}
	for _, piece := range pieces {
		eachText(pieces, n-1, func(text string) { hand(piece + text) })
	}
}
