package sum_test

import (
	"slices"
	"strconv"
	"strings"
	"testing"

	"stanzakeep/sum"
)

// byBits is the check sum as the chapter words it, bit by bit.
func byBits(text string) uint32 {
	register := uint32(0xffffffff)
	for _, b := range []byte(text) {
		register ^= uint32(b) << 24
		for range 8 {
			out := register&0x80000000 != 0
			register <<= 1
			if out {
				register ^= 0x04c11db7
			}
		}
	}
	return register ^ 0xffffffff
}

// sample is a text of n bytes in which all bytes come up.
func sample(n int) string {
	b := make([]byte, n)
	x := uint32(n)*2654435761 + 1
	for i := range b {
		x = x*1664525 + 1013904223
		b[i] = byte(x >> 24)
	}
	return string(b)
}

// P1.1: the chapter's example, and sums that are written out.
func TestKnownSums(t *testing.T) {
	for _, c := range []struct{ text, figures string }{
		{"", "00000000"},
		{"123456789", "fc891918"},
		{"\x00", "b1f7404b"},
		{"\x00\x00\x00\x00", "38fb2284"},
		{"\xff\xff\xff\xff", "ffffffff"},
		{"a", "19939b6b"},
	} {
		if got := sum.Figures(sum.Sum(c.text)); got != c.figures {
			t.Errorf("%q: %s, not %s", c.text, got, c.figures)
		}
		if !sum.Is(c.figures, c.text) {
			t.Errorf("%q: not its figures", c.text)
		}
	}
}

// P1.1: no parts, and empty ones, are the empty text.
func TestNoParts(t *testing.T) {
	for i, parts := range [][]string{nil, {}, {""}, {"", "", ""}} {
		if got := sum.Sum(parts...); got != 0 {
			t.Error(i, got)
		}
		if !sum.Is("00000000", parts...) || sum.Is("00000001", parts...) || sum.Is("", parts...) {
			t.Error(i, "Is")
		}
	}
	if sum.Sum() != 0 || !sum.Is("00000000") || sum.Is("") {
		t.Error("none at all")
	}
}

// P1.1: the sum is the division's rest, for each byte, for pairs of bytes, and for long texts.
func TestSumByBits(t *testing.T) {
	for a := range 256 {
		if text := string([]byte{byte(a)}); sum.Sum(text) != byBits(text) {
			t.Errorf("%q", text)
		}
		for b := range 256 {
			if text := string([]byte{byte(a), byte(b)}); sum.Sum(text) != byBits(text) {
				t.Errorf("%q", text)
			}
		}
	}
	for _, n := range []int{3, 4, 5, 7, 8, 9, 63, 64, 65, 255, 256, 257, 1000, 60000} {
		if text := sample(n); sum.Sum(text) != byBits(text) {
			t.Error(n)
		}
	}
}

// P1.1: a text is taken by its bytes, whether they are runes or not.
func TestBytesNotRunes(t *testing.T) {
	for _, text := range []string{"\u00e4", "\u20ac", "\U0001f600", "\xc3", "\xff\xfe", "a\u00e4\xffb"} {
		if sum.Sum(text) != byBits(text) {
			t.Errorf("%q", text)
		}
	}
	if sum.Sum("\xc3", "\xa4") != sum.Sum("\u00e4") {
		t.Error("a rune that is parted")
	}
}

// P1.1: Add goes on from any sum.
func TestAdd(t *testing.T) {
	text := sample(120)
	for n := range len(text) + 1 {
		if got := sum.Add(sum.Sum(text[:n]), text[n:]); got != byBits(text) {
			t.Error(n, got)
		}
	}
	if sum.Add(0, text) != byBits(text) {
		t.Error("0 is the empty text's sum")
	}
	for _, s := range []uint32{0, 1, 0x80000000, 0x04c11db7, 0xfc891918, 0xffffffff} {
		if got := sum.Add(s, ""); got != s {
			t.Errorf("%x: %x", s, got)
		}
	}
	if got := sum.Add(0xffffffff, "\x00\x00\x00"); got != 0xffffffff {
		t.Errorf("a register of zeros: %x", got)
	}
}

// P1.1: figures are eight, the highest first, and are taken back.
func TestFigures(t *testing.T) {
	for _, c := range []struct {
		sum     uint32
		figures string
	}{
		{0, "00000000"},
		{1, "00000001"},
		{0x1f, "0000001f"},
		{0x01234567, "01234567"},
		{0x89abcdef, "89abcdef"},
		{0x80000000, "80000000"},
		{0xf0000000, "f0000000"},
		{0xffffffff, "ffffffff"},
	} {
		if got := sum.Figures(c.sum); got != c.figures {
			t.Errorf("%x: %s", c.sum, got)
		}
		if got, ok := sum.Take(c.figures); !ok || got != c.sum {
			t.Errorf("%s: %x %v", c.figures, got, ok)
		}
	}
	for place := range 8 {
		for digit := range 16 {
			s := uint32(digit) << (4 * place)
			f := strings.Repeat("0", 7-place) + strconv.FormatInt(int64(digit), 16) + strings.Repeat("0", place)
			if sum.Figures(s) != f {
				t.Error(place, digit, sum.Figures(s))
			}
			if got, ok := sum.Take(f); !ok || got != s {
				t.Error(place, digit, got, ok)
			}
		}
	}
}

// P1.1: what isn't eight figures is refused, and answers 0.
func TestTakeRefuses(t *testing.T) {
	for _, f := range []string{
		"", "0", "1234567", "0000000", "123456789", "000000000", "fc891918 ", " fc891918", "fc891918\n", "0xfc891918",
		"+1234567", "-1234567", "+12345678", "-12345678", "0x123456", "12_34567", "1234.567", "1234 567", " 2345678", "1234567 ", "1234567\n",
		"FC891918", "fC891918", "fc89191A", "ABCDEF01", "abcdefgh", "1234567g", "g1234567", "0000000G",
		"\x00\x00\x00\x00\x00\x00\x00\x00", "\u0661\u0662\u0663\u0664", "\uff11\uff12ab", "1234567\xff",
	} {
		if got, ok := sum.Take(f); ok || got != 0 {
			t.Errorf("%q: %x %v", f, got, ok)
		}
	}
}

// P1.1: of all bytes just the sixteen figures are taken, at each place.
func TestTakeEachByte(t *testing.T) {
	for place := range 8 {
		for b := range 256 {
			f := []byte("5a5a5a5a")
			f[place] = byte(b)
			want := b >= '0' && b <= '9' || b >= 'a' && b <= 'f'
			got, ok := sum.Take(string(f))
			if ok != want {
				t.Errorf("%q: %v", f, ok)
			}
			if ok && sum.Figures(got) != string(f) || !ok && got != 0 {
				t.Errorf("%q: %x", f, got)
			}
		}
	}
}

// P1.1: Is asks for the parts' figures as they are written.
func TestIs(t *testing.T) {
	if !sum.Is("fc891918", "123456789") || !sum.Is("fc891918", "123", "", "456789") {
		t.Error("the figures")
	}
	for _, f := range []string{"", "fc891919", "0c891918", "FC891918", "Fc891918", "fc89191", "fc8919180", "+c891918", " fc891918", "00000000"} {
		if sum.Is(f, "123456789") {
			t.Errorf("%q", f)
		}
	}
	for i, parts := range [][]string{{"123456788"}, {"12345678"}, {"1234567890"}, {"456789", "123"}, {"123456789", "0"}, nil} {
		if sum.Is("fc891918", parts...) {
			t.Error(i)
		}
	}
}

// P1.1: the parts that are handed in are as they were.
func TestPartsStay(t *testing.T) {
	room := []string{"12", "345", "", "6789", "behind"}
	parts := room[:4]
	if sum.Sum(parts...) != 0xfc891918 || !sum.Is("fc891918", parts...) {
		t.Error("the sum")
	}
	if !slices.Equal(room, []string{"12", "345", "", "6789", "behind"}) {
		t.Error(room)
	}
}

// P1.2: all ways to part a text into three parts, and empty parts between them, have one sum.
func TestParting(t *testing.T) {
	text := sample(48)
	want := byBits(text)
	for i := range len(text) + 1 {
		for j := i; j <= len(text); j++ {
			a, b, c := text[:i], text[i:j], text[j:]
			if sum.Sum(a, b, c) != want || sum.Sum("", a, "", "", b, c, "") != want {
				t.Error(i, j)
			}
			if sum.Add(sum.Add(sum.Sum(a), b), c) != want || !sum.Is(sum.Figures(want), a, b, c) {
				t.Error(i, j, "Add, Is")
			}
		}
	}
	if sum.Sum(strings.Split(text, "")...) != want {
		t.Error("byte by byte")
	}
}

// changed is text with the bits of a pattern changed in the four bytes from at on, as far as it goes.
func changed(text string, at int, pattern uint32) string {
	b := []byte(text)
	for i := range 4 {
		if at+i < len(b) {
			b[at+i] ^= byte(pattern >> (24 - 8*i))
		}
	}
	return string(b)
}

// patterns are changes of four bytes: each bit, each two bits, and some of many bits.
func patterns() []uint32 {
	var all []uint32
	for i := range 32 {
		for j := range i + 1 {
			all = append(all, 1<<i|1<<j)
		}
	}
	all = append(all, 0xffffffff, 0x04c11db7, 0x82608edb, 0x80000001, 0xff000000, 0x000000ff)
	x := uint32(1)
	for range 500 {
		x = x*1664525 + 1013904223
		all = append(all, x)
	}
	return all
}

// P1.2: bits changed in four bytes side by side are seen, wherever these stand.
func TestChangedBits(t *testing.T) {
	all := patterns()
	for _, n := range []int{1, 2, 3, 4, 5, 8, 33, 200} {
		text := sample(n)
		was := sum.Sum(text)
		for at := range n {
			for _, p := range all {
				other := changed(text, at, p)
				if other != text && (sum.Sum(other) == was || sum.Is(sum.Figures(was), other)) {
					t.Errorf("%d bytes, from %d on: %08x", n, at, p)
				}
			}
		}
	}
}

// P1.2: of all changes of two bytes side by side, no two have one sum.
func TestChangedPairs(t *testing.T) {
	seen := map[uint32]int{}
	for p := range 1 << 16 {
		s := sum.Sum(changed("a stanza's text", 5, uint32(p)<<16))
		if q, ok := seen[s]; ok {
			t.Errorf("%04x and %04x: %08x", q, p, s)
		}
		seen[s] = p
	}
}

// P1.2: unlike sums have unlike figures, and all figures are well formed.
func TestUnlikeFigures(t *testing.T) {
	seen := map[string]uint32{}
	ask := func(s uint32) {
		f := sum.Figures(s)
		if other, ok := seen[f]; ok && other != s {
			t.Errorf("%08x and %08x: %s", other, s, f)
		}
		seen[f] = s
		if got, ok := sum.Take(f); !ok || got != s || len(f) != 8 {
			t.Errorf("%08x: %q %08x %v", s, f, got, ok)
		}
	}
	x := uint32(7)
	for i := range 1 << 14 {
		x = x*1664525 + 1013904223
		ask(x)
		ask(^x)
		ask(x ^ 1<<(i%32))
		ask(uint32(i))
		ask(uint32(i) << 18)
	}
}
