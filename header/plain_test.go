package header_test

import (
	"testing"

	"stanzakeep/api"
	"stanzakeep/header"
)

// The chapter's words in the plainest way there is: the tests hold the calls against these.

// plainLine is a generation's header, figure by figure; "" if there is none.
func plainLine(gen int) string {
	if gen < 1 || gen > 2147483648 {
		return ""
	}
	figures := ""
	for rest := gen; rest > 0; rest /= 10 {
		figures = string(rune(0x30+rest%10)) + figures
	}
	return "#%gen " + figures + "\x0a\x0a"
}

// plainGen is a text's generation, and how many bytes its header has, byte by byte.
func plainGen(text string) (int, int) {
	if len(text) < 6 || text[:6] != "#%gen " {
		return 0, 0
	}
	gen, at := 0, 6
	for at < len(text) && text[at] >= 0x30 && text[at] <= 0x39 {
		gen, at = gen*10+int(text[at]-0x30), at+1
		if gen == 0 || gen > 2147483648 {
			return 0, 0
		}
	}
	if gen == 0 || len(text) < at+2 || text[at] != 0x0a || text[at+1] != 0x0a {
		return 0, 0
	}
	return gen, at + 2
}

// holdText holds what Take and Gen say of a text against the words, and tells its generation.
func holdText(t *testing.T, text string) int {
	t.Helper()
	want, n := plainGen(text)
	gen, rest := header.Take(text)
	if gen != want || rest != text[n:] {
		t.Errorf("%.100q (%d bytes): %d %.100q, not %d %.100q", text, len(text), gen, rest, want, text[n:])
	}
	if got := header.Gen(text); got != want {
		t.Errorf("%.100q (%d bytes): %d, not %d", text, len(text), got, want)
	}
	if got, err := header.Put(gen, rest); err != nil || got != text {
		t.Errorf("%.100q (%d bytes): put again %.100q %v", text, len(text), got, err)
	}
	return gen
}

// holdGen holds what Line, Length and Put say of a generation against the words, and tells the header.
func holdGen(t *testing.T, gen int, texts ...string) string {
	t.Helper()
	want := plainLine(gen)
	line, err := header.Line(gen)
	if line != want || want != "" && err != nil || want == "" && err != api.ErrRange {
		t.Errorf("%d: %q %v, not %q", gen, line, err, want)
	}
	if n := header.Length(gen); n != len(want) {
		t.Errorf("%d: %d bytes, not %d", gen, n, len(want))
	}
	for _, text := range texts {
		whole, err := header.Put(gen, text)
		if want == "" && gen != 0 {
			if whole != "" || err != api.ErrRange {
				t.Errorf("%d, %.100q: %.100q %v, not %v", gen, text, whole, err, api.ErrRange)
			}
			continue
		}
		if whole != want+text || err != nil {
			t.Errorf("%d, %.100q: %.100q %v", gen, text, whole, err)
		}
		holdTaken(t, gen, text, whole)
	}
	return line
}

// holdTaken holds that what was put is taken: of generation 0 only where the text has no header of its own.
func holdTaken(t *testing.T, gen int, text, whole string) {
	t.Helper()
	if own, _ := plainGen(text); gen == 0 && own != 0 {
		gen, text = own, text[len(plainLine(own)):]
	}
	if got := holdText(t, whole); got != gen {
		t.Errorf("%.100q: %d, not %d", whole, got, gen)
	}
	if _, rest := header.Take(whole); rest != text {
		t.Errorf("%.100q: %.100q, not %.100q", whole, rest, text)
	}
}

// eachText hands over all texts of up to n of some pieces.
func eachText(pieces []string, n int, hand func(string)) {
	hand("")
	if n == 0 {
		return
	}
	for _, piece := range pieces {
		eachText(pieces, n-1, func(text string) { hand(piece + text) })
	}
}
