package frame_test

import (
	"math"
	"math/rand/v2"
	"slices"
	"strconv"
	"strings"
	"testing"

	"stanzakeep/api"
	"stanzakeep/frame"
	"stanzakeep/lines"
	"stanzakeep/sum"
)

// P11.1: the kinds' numbers, as the chapter counts them.
func TestKindsNumbers(t *testing.T) {
	if kinds := []int{frame.Whole, frame.Part, frame.Odd}; !slices.Equal(kinds, []int{1, 2, 3}) {
		t.Error(kinds)
	}
}

// P11.1, P11.2: the chapter's example, and others, written out.
func TestWrittenOut(t *testing.T) {
	for _, c := range []struct{ body, record string }{
		{" a\n", "%amend 3 eff85f7f\n a\n%end 3\n"},
		{" \n", "%amend 2 f0617b72\n \n%end 2\n"},
		{" delete 7\n", "%amend 10 83b460df\n delete 7\n%end 10\n"},
		{" insert 1\n  B: 2\n", "%amend 17 835b6407\n insert 1\n  B: 2\n%end 17\n"},
		{" \xff\x00\r\n", "%amend 5 06159046\n \xff\x00\r\n%end 5\n"},
		{strings.Repeat(" \n", 50), "%amend 100 58ee0bef\n" + strings.Repeat(" \n", 50) + "%end 100\n"},
	} {
		if !frame.Good(c.body) || frame.Length(len(c.body)) != len(c.record) {
			t.Errorf("%q: %v, %d bytes", c.body, frame.Good(c.body), frame.Length(len(c.body)))
		}
		if record, err := frame.Record(c.body); err != nil || record != c.record {
			t.Errorf("%q: %q %v, not %q", c.body, record, err, c.record)
		}
		if kind, body, n := frame.Read(c.record); kind != frame.Whole || body != c.body || n != len(c.record) {
			t.Errorf("%q: %d %q %d", c.record, kind, body, n)
		}
		holdBody(t, c.body)
		holdText(t, c.record)
	}
}

// P11.1: bodies, and texts that are none, written out.
func TestBodies(t *testing.T) {
	for _, c := range []struct {
		body string
		want bool
	}{
		{"", false}, {" ", false}, {"\n", false}, {"a", false},
		{" \n", true}, {"a\n", false}, {"\t\n", false}, {"\n\n", false}, {"  ", false}, {" a", false}, {"\n ", false},
		{" a\n b\n", true}, {" a\n b", false}, {" a\nb\n", false}, {"a\n b\n", false}, {" a\n\n", false}, {" a\n\n b\n", false}, {"\n a\n", false}, {" a\n\tb\n", false}, {"\ta\n b\n", false}, {" a\n ", false},
		{" %end 3\n", true}, {" %amend 3 00000000\n", true}, {"%end 3\n", false}, {" a\n%end 3\n", false}, {" a\r\n b\r\n", true}, {" a\r b\n", true}, {" \x00\xff\u00e9\n", true}, {"\u00a0a\n", false},
		{" " + strings.Repeat("x", 49998) + "\n", true}, {" " + strings.Repeat("x", 49999) + "\n", false}, {" " + strings.Repeat("x", 49999), false}, {strings.Repeat(" \n", 25000), true}, {strings.Repeat(" \n", 25001), false}, {strings.Repeat(" \n", 24999) + "\n\n", false}, {strings.Repeat(" \n", 24999) + "  ", false}, {strings.Repeat(" \n", 60000), false},
	} {
		if frame.Good(c.body) != c.want || holdBody(t, c.body) != c.want {
			t.Errorf("%.50q (%d bytes): not %v", c.body, len(c.body), c.want)
		}
	}
}

// P11.1: Good and Record of all short texts.
func TestBodiesAllShort(t *testing.T) {
	eachText([]string{" ", "\n", "a", "\t"}, 7, func(text string) { holdBody(t, text) })
}

// P11.1: how long records are, of bodies of each length, and of none.
func TestLength(t *testing.T) {
	for n := -100; n <= 50100; n++ {
		want := 0
		if n >= 2 && n <= 50000 {
			want = len("%amend  00000000\n%end \n") + n + 2*len(strconv.Itoa(n))
		}
		if got := frame.Length(n); got != want {
			t.Fatal(n, got, want)
		}
	}
	for _, n := range []int{math.MinInt, math.MinInt + 2, -50000, 1 << 31, 1<<32 + 2, math.MaxInt} {
		if got := frame.Length(n); got != 0 {
			t.Error(n, got)
		}
	}
	for _, n := range []int{2, 9, 10, 99, 100, 999, 1000, 9999, 10000, 50000} {
		holdBody(t, bodyOf(n, n))
		holdBody(t, bodyOf(n, 2))
		holdBody(t, bodyOf(n, 7))
	}
}

// P11.1: what texts begin with, written out.
func TestReadWrittenOut(t *testing.T) {
	long := " " + strings.Repeat("x", 49998) + "\n"
	for _, c := range []struct {
		text string
		kind int
	}{
		// The line of the length.
		{"", frame.Part}, {"%", frame.Part}, {"%a", frame.Part}, {"%amend", frame.Part}, {"%amend ", frame.Part},
		{"\n", frame.Odd}, {" ", frame.Odd}, {"a", frame.Odd}, {"%%", frame.Odd}, {"%A", frame.Odd}, {"%e", frame.Odd}, {"%end 3\n", frame.Odd}, {"%amends", frame.Odd}, {"%amend  ", frame.Odd}, {"%amend\n", frame.Odd}, {"%amend \n", frame.Odd}, {"%amend\t", frame.Odd}, {"%\n", frame.Odd}, {" %amend 3", frame.Odd}, {"amend 3", frame.Odd}, {"A: 1\n", frame.Odd},
		{"%amend 1", frame.Part}, {"%amend 2", frame.Part}, {"%amend 9", frame.Part}, {"%amend 10", frame.Part}, {"%amend 6000", frame.Part}, {"%amend 49999", frame.Part}, {"%amend 50000", frame.Part},
		{"%amend 0", frame.Odd}, {"%amend 00", frame.Odd}, {"%amend 02", frame.Odd}, {"%amend +2", frame.Odd}, {"%amend -2", frame.Odd}, {"%amend a", frame.Odd}, {"%amend 2a", frame.Odd}, {"%amend 0x2", frame.Odd}, {"%amend 2_0", frame.Odd}, {"%amend 50001", frame.Odd}, {"%amend 60000", frame.Odd}, {"%amend 100000", frame.Odd}, {"%amend 500000", frame.Odd}, {"%amend 18446744073709551618", frame.Odd}, {"%amend 9223372036854775808", frame.Odd}, {"%amend \u0662", frame.Odd},
		{"%amend 1 ", frame.Odd}, {"%amend 1 00000000", frame.Odd}, {"%amend 2 ", frame.Part}, {"%amend 50000 ", frame.Part}, {"%amend 50001 ", frame.Odd}, {"%amend 02 ", frame.Odd}, {"%amend 4294967298 ", frame.Odd}, {"%amend 18446744073709551618 00000000\n", frame.Odd}, {"%amend 3\n", frame.Odd}, {"%amend 3 \n", frame.Odd}, {"%amend 3  ", frame.Odd}, {"%amend 3\t", frame.Odd},
		{"%amend 12 0", frame.Part}, {"%amend 12 00ff", frame.Part}, {"%amend 12 0123456", frame.Part}, {"%amend 12 89abcdef", frame.Part},
		{"%amend 12 00FF", frame.Odd}, {"%amend 12 g", frame.Odd}, {"%amend 12 0x", frame.Odd}, {"%amend 12 00ff\n", frame.Odd}, {"%amend 12 0123456\n", frame.Odd}, {"%amend 12 012345678", frame.Odd}, {"%amend 12 012345678\n", frame.Odd}, {"%amend 12 01234567 ", frame.Odd}, {"%amend 12 01234567 \n", frame.Odd}, {"%amend 12 01234567\r\n", frame.Odd}, {"%amend 12 +1234567", frame.Odd}, {"%amend 12 0000 000", frame.Odd},
		// The body.
		{"%amend 3 00000000\n", frame.Part}, {"%amend 3 00000000\n ", frame.Part}, {"%amend 3 00000000\n a", frame.Part}, {"%amend 3 00000000\n  ", frame.Part}, {"%amend 3 00000000\n a\n", frame.Part},
		{"%amend 3 00000000\na", frame.Odd}, {"%amend 3 00000000\n\n", frame.Odd}, {"%amend 3 00000000\n\t", frame.Odd}, {"%amend 3 00000000\n ab", frame.Odd}, {"%amend 3 00000000\n \n", frame.Odd}, {"%amend 3 00000000\n \na", frame.Odd}, {"%amend 3 00000000\n \n\n", frame.Odd}, {"%amend 3 00000000\n%end", frame.Odd},
		{"%amend 2 00000000\n ", frame.Part}, {"%amend 2 00000000\n \n", frame.Part}, {"%amend 2 00000000\n  ", frame.Odd}, {"%amend 2 00000000\n a", frame.Odd}, {"%amend 2 00000000\n\n", frame.Odd},
		{"%amend 4 00000000\n \n", frame.Part}, {"%amend 4 00000000\n \n ", frame.Part}, {"%amend 4 00000000\n \n \n", frame.Part}, {"%amend 4 00000000\n a\n", frame.Odd}, {"%amend 4 00000000\n ab\n", frame.Part}, {"%amend 4 00000000\n a\n\n", frame.Odd},
		{"%amend 5 00000000\n a\n", frame.Part}, {"%amend 5 00000000\n a\n ", frame.Part}, {"%amend 5 00000000\n a\nb", frame.Odd}, {"%amend 5 00000000\n a\n\n", frame.Odd}, {"%amend 5 00000000\n a\n \n", frame.Part}, {"%amend 5 00000000\n a\n b", frame.Odd},
		{"%amend 50000 00000000\n" + long, frame.Part}, {"%amend 49999 00000000\n" + long, frame.Odd}, {"%amend 50000 00000000\n" + long[:49999], frame.Part}, {"%amend 50000 00000000\n" + long[:49998] + "\n", frame.Odd}, {"%amend 50000 00000000\n" + long[:49997] + "\n", frame.Part}, {"%amend 50001 00000000\n" + long, frame.Odd},
		// The end line.
		{"%amend 3 00000000\n a\n%", frame.Part}, {"%amend 3 00000000\n a\n%end", frame.Part}, {"%amend 3 00000000\n a\n%end ", frame.Part}, {"%amend 3 00000000\n a\n%end 3", frame.Part},
		{"%amend 3 00000000\n a\n%end 3\n", frame.Odd}, {"%amend 3 00000000\n a\n%end 3\n%amend", frame.Odd}, {"%amend 3 00000000\n a\n%end 2", frame.Odd}, {"%amend 3 00000000\n a\n%end 03", frame.Odd}, {"%amend 3 00000000\n a\n%end 3 ", frame.Odd}, {"%amend 3 00000000\n a\n%end\n", frame.Odd}, {"%amend 3 00000000\n a\n%End", frame.Odd}, {"%amend 3 00000000\n a\n end", frame.Odd}, {"%amend 3 00000000\n a\n\n", frame.Odd}, {"%amend 3 00000000\n a\n b\n", frame.Odd},
		{"%amend 10 00000000\n delete 7\n%end 1", frame.Part}, {"%amend 10 00000000\n delete 7\n%end 1\n", frame.Odd}, {"%amend 10 00000000\n delete 7\n%end 100", frame.Odd},
		// The right sum, and others.
		{"%amend 3 eff85f7f\n a\n%end 3", frame.Part}, {"%amend 3 eff85f7f\n a\n%end 3\n", frame.Whole}, {"%amend 3 eff85f7f\n a\n%end 3\r\n", frame.Odd}, {"%amend 3 eff85f7f\n b\n%end 3\n", frame.Odd}, {"%amend 3 eff85f7e\n a\n%end 3\n", frame.Odd}, {"%amend 3 EFF85F7F\n a\n%end 3\n", frame.Odd}, {"%amend 03 eff85f7f\n a\n%end 3\n", frame.Odd}, {"%amend 03 eff85f7f\n a\n%end 03\n", frame.Odd}, {"%amend 3 eff85f7f\n a\n%end 4\n", frame.Odd}, {"%amend 3 eff85f7f\r\n a\n%end 3\n", frame.Odd}, {"\n%amend 3 eff85f7f\n a\n%end 3\n", frame.Odd}, {" %amend 3 eff85f7f\n a\n%end 3\n", frame.Odd},
	} {
		kind, body, n := frame.Read(c.text)
		if kind != c.kind || kind != frame.Whole && (body != "" || n != 0) {
			t.Errorf("%.100q (%d bytes): %d %.100q %d, not %d", c.text, len(c.text), kind, body, n, c.kind)
		}
		holdText(t, c.text)
	}
}

// P11.2: each true beginning of a record is a part; the record with anything behind it is read, and is no part.
func TestBeginnings(t *testing.T) {
	for _, n := range []int{2, 3, 4, 5, 9, 10, 11, 99, 100, 101, 999, 1000, 9999, 10000, 10001, 49999, 50000} {
		for _, width := range []int{2, 3, 80, n} {
			body := bodyOf(n, width)
			record, err := frame.Record(body)
			if err != nil || len(body) != n {
				t.Fatal(n, width, err)
			}
			for i := range len(record) {
				// Of long ones not each place within the body.
				if far := i > 60 && i < len(record)-60; n > 200 && far && i%977 != 0 {
					continue
				}
				if kind := holdText(t, record[:i]); kind != frame.Part {
					t.Errorf("%d bytes in lines of %d: the first %d are %d", n, width, i, kind)
				}
			}
			for _, behind := range []string{"", "\n", " ", "%", "%am", "%x", "A: 1\n", "%end 3\n", "\x00", record, record[:len(record)-1], "\xff" + record} {
				kind, got, length := frame.Read(record + behind)
				if kind != frame.Whole || got != body || length != len(record) {
					t.Errorf("%d bytes in lines of %d, %.20q behind it: %d %d", n, width, behind, kind, length)
				}
				holdText(t, record+behind)
			}
		}
	}
}

// P11.2: texts whose every byte was right, but one, that is another one, away, or put in.
func TestOneByteWrong(t *testing.T) {
	for _, body := range []string{" \n", " a\n", " a\n  b\n \n", " delete 7\n", " %end 9\n"} {
		record, err := frame.Record(body)
		if err != nil {
			t.Fatal(err)
		}
		for i := range len(record) {
			if kind := holdText(t, record[:i]+record[i+1:]); kind == frame.Whole {
				t.Errorf("%q without byte %d: read", record, i)
			}
			for b := range 256 {
				x := string([]byte{byte(b)})
				other := record[:i] + x + record[i+1:]
				if kind := holdText(t, other); (kind == frame.Whole) != (other == record) {
					t.Errorf("%q: %d", other, kind)
				}
				holdText(t, record[:i]+x)
				more := record[:i] + x + record[i:]
				if kind := holdText(t, more); kind == frame.Whole && more[:len(record)] != record {
					t.Errorf("%q: %d", more, kind)
				}
			}
		}
	}
}

// P11.2: a part's sum may be any eight figures; a whole record's just the one that its body has.
func TestAnyFigures(t *testing.T) {
	random := rand.New(rand.NewPCG(11, 2))
	body := " replace 3\n  A: 1\n   2\n"
	for range 2000 {
		figures := sum.Figures(random.Uint32())
		record := plainRecord(body, figures)
		for i := range len(record) {
			if kind, got, n := frame.Read(record[:i]); kind != frame.Part || got != "" || n != 0 {
				t.Fatalf("%q: %d %q %d", record[:i], kind, got, n)
			}
		}
		if kind := holdText(t, record); kind == frame.Part || (kind == frame.Whole) != (figures == sum.Figures(sum.Sum(body))) {
			t.Errorf("%q: %d", record, kind)
		}
	}
	for place := range 8 {
		for b := range 256 {
			figures := []byte("5a0f19e8")
			figures[place] = byte(b)
			want := frame.Odd
			if b >= '0' && b <= '9' || b >= 'a' && b <= 'f' {
				want = frame.Part
			}
			line := "%amend 23 " + string(figures)
			for _, text := range []string{line[:11+place], line, line + "\n", line + "\n" + body, line + "\n" + body + "%end 23"} {
				if kind := holdText(t, text); kind != want {
					t.Errorf("%q: %d, not %d", text, kind, want)
				}
			}
		}
	}
}

// P11.1: each length, as the line says it, and as that line begins.
func TestEachNumber(t *testing.T) {
	for n := range 120000 {
		figures := strconv.Itoa(n)
		for _, behind := range []string{"", " ", " 0", " 89abcdef", " 89abcdef\n"} {
			want := frame.Odd
			if n >= 2 && n <= 50000 || n == 1 && behind == "" {
				want = frame.Part
			}
			if kind, _, _ := frame.Read("%amend " + figures + behind); kind != want {
				t.Fatalf("%s%q: %d, not %d", figures, behind, kind, want)
			}
			if kind, _, _ := frame.Read("%amend 0" + figures + behind); kind != frame.Odd {
				t.Fatalf("0%s%q: %d", figures, behind, kind)
			}
		}
	}
}

// P11.1, P11.2: all texts of up to some pieces of records.
func TestPieces(t *testing.T) {
	var seen [frame.Odd + 1]int
	eachText([]string{"%amend ", "2", "0", " ", "f0617b72", "\n", "%end ", "%am"}, 6, func(text string) { seen[holdText(t, text)]++ })
	eachText([]string{" ", "\n", "a", "%end ", "3", "%"}, 6, func(text string) { seen[holdText(t, "%amend 3 eff85f7f\n"+text)]++ })
	eachText([]string{" ", "\n", "ab", "%end 7\n", "%end"}, 7, func(text string) { seen[holdText(t, "%amend 7 01234567\n"+text)]++ })
	if slices.Contains(seen[1:], 0) {
		t.Error(seen)
	}
}

// P11.1, P11.2: records at random, cut, changed, and one behind the other.
func TestAtRandom(t *testing.T) {
	random := rand.New(rand.NewPCG(11, 1))
	for range 3000 {
		var body strings.Builder
		for range 1 + random.IntN(6) {
			body.WriteString(" ")
			for range random.IntN(30) {
				body.WriteByte(" %a1:\x00\xff\r"[random.IntN(8)])
			}
			body.WriteString("\n")
		}
		record, err := frame.Record(body.String())
		if err != nil || holdText(t, record) != frame.Whole {
			t.Fatalf("%q: %v", record, err)
		}
		cut := record[:random.IntN(len(record))]
		if holdText(t, cut) != frame.Part || holdText(t, record+cut) != frame.Whole {
			t.Errorf("%q", cut)
		}
		wrong := []byte(record)
		wrong[random.IntN(len(wrong))] ^= 1 << random.IntN(8)
		if holdText(t, string(wrong)) == frame.Whole {
			t.Errorf("%q: read", wrong)
		}
		holdText(t, string(wrong[:random.IntN(len(wrong))]))
	}
}

// P11.1: long texts that are no records.
func TestLongTexts(t *testing.T) {
	for _, text := range []string{
		strings.Repeat("%", 120000),
		"%amend " + strings.Repeat("2", 120000),
		"%amend " + strings.Repeat("2", 120000) + " 00000000\n",
		"%amend 2 " + strings.Repeat("0", 120000) + "\n",
		strings.Repeat("\n", 120000),
		strings.Repeat("%amend 2 00000000\n", 7000),
		"%amend 50000 00000000\n" + strings.Repeat(" ", 120000),
		"%amend 50000 00000000\n" + strings.Repeat(" \n", 60000),
		"%amend 50000 00000000\n" + strings.Repeat(" \n", 25000) + strings.Repeat("%end 50000", 7000),
	} {
		if kind := holdText(t, text); kind != frame.Odd {
			t.Errorf("%.40q (%d bytes): %d", text, len(text), kind)
		}
	}
}

// P11.1: which lines begin records, written out.
func TestBeginsWrittenOut(t *testing.T) {
	key := strings.Repeat("k", 31)
	for _, c := range []struct {
		line string
		want bool
	}{
		{"%", true}, {"%%", true}, {"%am", true}, {"%amend 3 eff85f7f", true}, {"%end 3", true}, {"% ", true}, {"%\t", true}, {"%x y", true}, {"%#", true}, {"%\xff\x00\r", true},
		{"", false}, {" ", false}, {" %", false}, {"\t%", false}, {"#%", false}, {"#%gen 1", false}, {"x", false}, {"x%", false}, {"x %y", false}, {"%: x", false}, {"%:", false}, {"%x: y", false}, {"%x:y", false}, {"%x y: z", false}, {"%amend 3:", false}, {"A: %", false},
		// A key that is too long is none.
		{"%" + key + ": x", false}, {"%" + key + "k: x", true}, {"%" + key + "kk: x: y", true},
		// What has a line end in it is Odd, as layer 2 says.
		{"%\n", true}, {"%x: y\n", true}, {"%a\nb: c", true}, {"\n%", false}, {"a\n%", false},
	} {
		if got := frame.Begins(c.line); got != c.want {
			t.Errorf("%q: %v", c.line, got)
		}
	}
}

// P11.1: which lines begin records, of all short ones, and with each byte.
func TestBeginsAllShort(t *testing.T) {
	hold := func(line string) {
		want := line != "" && line[0] == '%' && lines.Kind(line) == lines.Odd
		if got := frame.Begins(line); got != want {
			t.Errorf("%q: %v", line, got)
		}
	}
	eachText([]string{"%", ":", " ", "\n", "#", "a"}, 6, hold)
	for b := range 256 {
		x := string([]byte{byte(b)})
		for _, line := range []string{x, x + "%", "%" + x, "%" + x + ": y", "%a" + x, "%a:" + x, x + "a"} {
			hold(line)
		}
	}
}

// P11.1: nothing is kept: an answer is the same whatever was asked before.
func TestNothingIsKept(t *testing.T) {
	for range 3 {
		if record, err := frame.Record("a\n"); record != "" || err != api.ErrForm {
			t.Error(record, err)
		}
		if record, err := frame.Record(" a\n"); record != "%amend 3 eff85f7f\n a\n%end 3\n" || err != nil {
			t.Error(record, err)
		}
	}
}
