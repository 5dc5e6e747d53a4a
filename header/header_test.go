package header_test

import (
	"math"
	"math/rand/v2"
	"strconv"
	"strings"
	"testing"

	"stanzakeep/api"
	"stanzakeep/header"
	"stanzakeep/stanza"
)

// texts are such as stand behind headers; the last ones have headers of their own.
var texts = []string{
	"", "\n", "\n\n", " ", "x", "A: 1\n", "A: 1\n\n\nB: 2\n", "# head\n", "%amend 3 eff85f7f\n a\n%end 3\n", "%am", "0\n\n", "12\n\n", "\x00\xff\r\n",
	"#%gen", "#%gen ", "#%gen 1", "#%gen 1\n", "#%gen 0\n\n", "#%gen 01\n\n", "\n#%gen 1\n\n", " #%gen 1\n\n", "#%gen 2147483649\n\n",
	"#%gen 1\n\n", "#%gen 1\n\n\n", "#%gen 12\n\nA: 1\n", "#%gen 2147483648\n\n", "#%gen 1\n\n#%gen 2\n\n",
}

// P12.1: headers written out, and numbers that have none.
func TestWrittenOut(t *testing.T) {
	for _, c := range []struct {
		gen  int
		line string
	}{
		{1, "#%gen 1\n\n"}, {9, "#%gen 9\n\n"}, {10, "#%gen 10\n\n"}, {12, "#%gen 12\n\n"}, {100, "#%gen 100\n\n"}, {65536, "#%gen 65536\n\n"},
		{1<<31 - 1, "#%gen 2147483647\n\n"}, {1 << 31, "#%gen 2147483648\n\n"},
	} {
		line, err := header.Line(c.gen)
		if line != c.line || err != nil {
			t.Errorf("%d: %q %v, not %q", c.gen, line, err, c.line)
		}
		if n := header.Length(c.gen); n != len(c.line) {
			t.Errorf("%d: %d bytes, not %d", c.gen, n, len(c.line))
		}
		if whole, err := header.Put(c.gen, "A: 1\n"); whole != c.line+"A: 1\n" || err != nil {
			t.Errorf("%d: %q %v", c.gen, whole, err)
		}
		if gen, rest := header.Take(c.line + "A: 1\n"); gen != c.gen || rest != "A: 1\n" {
			t.Errorf("%q: %d %q", c.line, gen, rest)
		}
		if gen := header.Gen(c.line + "A: 1\n"); gen != c.gen {
			t.Errorf("%q: %d", c.line, gen)
		}
		holdGen(t, c.gen, texts...)
	}
	for _, gen := range []int{-1, -12, 1<<31 + 1, 1<<32 + 1, -1 << 31, -1<<31 + 1, 1 << 62, math.MinInt, math.MinInt + 1, math.MaxInt} {
		if line, err := header.Line(gen); line != "" || err != api.ErrRange {
			t.Errorf("%d: %q %v", gen, line, err)
		}
		if whole, err := header.Put(gen, "A: 1\n"); whole != "" || err != api.ErrRange {
			t.Errorf("%d: %q %v", gen, whole, err)
		}
		if n := header.Length(gen); n != 0 {
			t.Errorf("%d: %d bytes", gen, n)
		}
		holdGen(t, gen, texts...)
	}
}

// P12.1: generation 0 has no header, so that Line refuses it and Put doesn't.
func TestZero(t *testing.T) {
	if line, err := header.Line(0); line != "" || err != api.ErrRange {
		t.Errorf("%q %v", line, err)
	}
	if n := header.Length(0); n != 0 {
		t.Error(n)
	}
	for _, text := range texts {
		if whole, err := header.Put(0, text); whole != text || err != nil {
			t.Errorf("%q: %q %v", text, whole, err)
		}
	}
	holdGen(t, 0, texts...)
}

// P12.1: the generations of texts, written out.
func TestTexts(t *testing.T) {
	for _, c := range []struct {
		text string
		gen  int
		rest string
	}{
		{"#%gen 1\n\n", 1, ""}, {"#%gen 1\n\n\n", 1, "\n"}, {"#%gen 12\n\nA: 1\n", 12, "A: 1\n"}, {"#%gen 12\n\n#%gen 13\n\nx", 12, "#%gen 13\n\nx"}, {"#%gen 2147483648\n\n\x00", 1 << 31, "\x00"}, {"#%gen 10\n\n \n", 10, " \n"},
	} {
		if gen, rest := header.Take(c.text); gen != c.gen || rest != c.rest || header.Gen(c.text) != c.gen {
			t.Errorf("%q: %d %q %d", c.text, gen, rest, header.Gen(c.text))
		}
		holdText(t, c.text)
	}
	for _, text := range []string{
		"", "\n", "\n\n", "A: 1\n", "1\n\n", "gen 1\n\n", "%gen 1\n\n", "#gen 1\n\n", "# %gen 1\n\n", "#% gen 1\n\n", "##%gen 1\n\n", "#%Gen 1\n\n", "#%GEN 1\n\n", "#%generation 1\n\n", "#%gen1\n\n", "#%gen  1\n\n", "#%gen\t1\n\n", "#%gen\n\n", "#%gen \n\n", "#%gen \n1\n\n",
		" #%gen 1\n\n", "\n#%gen 1\n\n", "A: 1\n#%gen 1\n\n", "\ufeff#%gen 1\n\n", "\x00#%gen 1\n\n",
		"#%gen 0\n\n", "#%gen 00\n\n", "#%gen 01\n\n", "#%gen 0000000001\n\n", "#%gen +1\n\n", "#%gen -1\n\n", "#%gen -0\n\n", "#%gen 1 \n\n", "#%gen 1.0\n\n", "#%gen 1e3\n\n", "#%gen 0x1\n\n", "#%gen 1_000\n\n", "#%gen 1,000\n\n", "#%gen 1a\n\n", "#%gen a\n\n", "#%gen 1 2\n\n", "#%gen \u0661\n\n", "#%gen \uff11\n\n",
		"#%gen 2147483649\n\n", "#%gen 4294967297\n\n", "#%gen 9999999999\n\n", "#%gen 10000000000\n\n", "#%gen 9223372036854775808\n\n", "#%gen 18446744073709551617\n\n", "#%gen 99999999999999999999999999\n\n",
		"#%gen 1", "#%gen 1\n", "#%gen 1\nA: 1\n", "#%gen 1\n \n", "#%gen 1\n\t\n\n", "#%gen 1\r\n\r\n", "#%gen 1\r\n\n", "#%gen 1\n\r\n", "#%gen 1\r\r", "#%gen 1\nA: 1\n\n", "#%gen 1\n#\n\n", "1\n\n#%gen 1\n\n", "#%gen 01\n\n#%gen 1\n\n", "#%gen 12\n#%gen 12\n\n", "#%gen 1\x00\n\n", "#%gen 1\u2028\u2028", "#%gen 1\u0085\u0085",
	} {
		if gen, rest := header.Take(text); gen != 0 || rest != text || header.Gen(text) != 0 {
			t.Errorf("%q: %d %q %d", text, gen, rest, header.Gen(text))
		}
		holdText(t, text)
	}
}

// P12.1: all texts of up to some pieces of headers.
func TestPieces(t *testing.T) {
	seen := map[int]int{}
	count := func(text string) { seen[holdText(t, text)]++ }
	eachText([]string{"#%gen ", "#%gen", " ", "1", "0", "2147483648", "\n", "x"}, 6, count)
	eachText([]string{"0", "1", "9", "+", "\n", " "}, 7, func(text string) { count("#%gen " + text) })
	eachText([]string{"#", "%", "gen", " ", "7", "\n"}, 7, count)
	for _, gen := range []int{0, 1, 7, 10, 11, 100, 19, 1 << 31} {
		if seen[gen] == 0 {
			t.Error(gen, "isn't among them")
		}
	}
}

// P12.1: headers with a byte that is another one, away, or put in, and what they begin with.
func TestOneByteWrong(t *testing.T) {
	for _, gen := range []int{1, 7, 10, 12, 999, 1000, 1<<31 - 1, 1 << 31} {
		line, err := header.Line(gen)
		if err != nil {
			t.Fatal(gen, err)
		}
		for _, behind := range []string{"", "A: 1\n", "\n", "0\n\n"} {
			for i := range len(line) {
				holdText(t, line[:i]+line[i+1:]+behind)
				for b := range 256 {
					x := string([]byte{byte(b)})
					got := holdText(t, line[:i]+x+line[i+1:]+behind)
					if i < len("#%gen ") && line[i:i+1] != x && got != 0 {
						t.Errorf("%q with %q at %d: %d", line, x, i, got)
					}
					holdText(t, line[:i]+x+line[i:]+behind)
				}
			}
		}
		for i := range len(line) {
			if got := holdText(t, line[:i]); got != 0 {
				t.Errorf("%q: %d", line[:i], got)
			}
		}
	}
}

// P12.1, P12.2: each of the lower generations, those about the places where a figure or a bit more is needed, and the highest ones.
func TestEachGeneration(t *testing.T) {
	gens := map[string]int{}
	hold := func(gen int) {
		line := holdGen(t, gen, "", "A: 1\n")
		if line == "" {
			return
		}
		if other, ok := gens[line]; ok && other != gen {
			t.Errorf("%d and %d: %q", gen, other, line)
		}
		gens[line] = gen
	}
	for gen := -1000; gen <= 120000; gen++ {
		hold(gen)
	}
	for power := 1; power < 1e18; power *= 10 {
		for near := -20; near <= 20; near++ {
			hold(power + near)
			hold(-power + near)
		}
	}
	for bit := range 64 {
		for near := -20; near <= 20; near++ {
			hold(1<<bit + near)
		}
	}
	random := rand.New(rand.NewPCG(12, 1))
	for range 100000 {
		hold(1 + int(random.Uint32()>>1))
		hold(int(random.Uint64()))
	}
}

// P12.2: what is put is taken, any number of times; with generation 0 a header of the text's own is the text's.
func TestPutIsTaken(t *testing.T) {
	random := rand.New(rand.NewPCG(12, 2))
	for range 3000 {
		text, gens := texts[random.IntN(len(texts))], []int{}
		whole := text
		for range 1 + random.IntN(4) {
			gen := 1 + int(random.Uint32()>>random.IntN(33)>>1)
			gens = append(gens, gen)
			holdGen(t, gen, whole)
			whole, _ = header.Put(gen, whole)
		}
		for i := len(gens) - 1; i >= 0; i-- {
			gen, rest := header.Take(whole)
			if gen != gens[i] || header.Gen(whole) != gen {
				t.Fatalf("%q: %d, not %d", whole, gen, gens[i])
			}
			whole = rest
		}
		if whole != text {
			t.Fatalf("%q, not %q", whole, text)
		}
	}
	whole, err := header.Put(0, "#%gen 3\n\nA: 1\n")
	if gen, rest := header.Take(whole); err != nil || gen != 3 || rest != "A: 1\n" {
		t.Errorf("%q %v: %d %q", whole, err, gen, rest)
	}
}

// P12.2: the plain parser reads a header as a Remark and a Blank, with anything behind it.
func TestParsed(t *testing.T) {
	for _, gen := range []int{1, 9, 10, 12, 120000, 1<<31 - 1, 1 << 31} {
		line, err := header.Line(gen)
		if err != nil {
			t.Fatal(gen, err)
		}
		remark := "#%gen " + strconv.Itoa(gen) + "\n"
		items, err := stanza.Parse(line)
		if err != nil || len(items) != 2 {
			t.Fatalf("%q: %v %v", line, items, err)
		}
		for i, want := range []api.Item{{Kind: api.Remark, Raw: remark}, {Kind: api.Blank, Raw: "\n"}} {
			if got := items[i]; got.Kind != want.Kind || got.Raw != want.Raw || len(got.Fields) != 0 {
				t.Errorf("%q: item %d is %v, not %v", line, i, got, want)
			}
		}
		for _, text := range []string{"A: 1\n", "# head\n\nA: 1\n", "\n\nA: 1\n", line} {
			whole, err := header.Put(gen, text)
			if err != nil {
				t.Fatal(gen, err)
			}
			alone, err := stanza.Parse(text)
			all, errAll := stanza.Parse(whole)
			if err != nil || errAll != nil || len(all) != 2+len(alone) || all[0].Raw != remark || all[1].Raw != "\n" {
				t.Errorf("%q: %v %v", whole, all, errAll)
			}
		}
	}
}

// P12.1: long texts.
func TestLong(t *testing.T) {
	long := strings.Repeat("A: 1\n\n", 100000)
	holdGen(t, 12, long, strings.Repeat("\n", 100000), strings.Repeat("#%gen 1\n\n", 10000))
	holdGen(t, 0, long)
	for _, text := range []string{
		long, "#%gen " + long, "#%gen 1" + long, "#%gen 1\n" + long, "#%gen 1\n\n" + long,
		"#%gen " + strings.Repeat("1", 1000000), "#%gen " + strings.Repeat("1", 1000000) + "\n\n", "#%gen " + strings.Repeat("0", 1000000) + "1\n\n", "#%gen 1" + strings.Repeat(" ", 1000000) + "\n\n", strings.Repeat("#%gen ", 100000) + "1\n\n",
	} {
		want := 0
		if strings.HasPrefix(text, "#%gen 1\n\n") {
			want = 1
		}
		if got := holdText(t, text); got != want {
			t.Errorf("%.50q: %d, not %d", text, got, want)
		}
	}
}
