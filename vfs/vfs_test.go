package vfs_test

import (
	"math"
	"slices"
	"strings"
	"testing"

	"stanzakeep/api"
	"stanzakeep/vfs"
)

// made is a disk of that room on which steps were done, none of which was refused.
func made(t *testing.T, room int, steps ...step) *vfs.Disk {
	t.Helper()
	d, err := vfs.New(room)
	if err != nil || d == nil {
		t.Fatal(err)
	}
	for i, s := range steps {
		if err := s.do(d); err != nil {
			t.Fatal(i, s.words, err)
		}
	}
	return d
}

// refused holds a step's answer against the error that is asked for, and that nothing has changed by it.
func refused(t *testing.T, d *vfs.Disk, s step, want error) {
	t.Helper()
	names := []string{"a", "b", "c"}
	was, behind := shown(d, names...), shownBehind(d, names...)
	if err := s.do(d); err != want {
		t.Errorf("%s: %v, not %v", s.words, err, want)
	}
	if shown(d, names...) != was || shownBehind(d, names...) != behind {
		t.Errorf("%s: was\n%s\nis\n%s", s.words, was, shown(d, names...))
	}
}

// shownBehind is what a disk would show behind some crashes.
func shownBehind(d *vfs.Disk, names ...string) string {
	all := ""
	for n := range 6 {
		other := d.Copy()
		other.Crash(n, n, n, n)
		all += shown(other, names...) + "\n"
	}
	return all
}

// read is what is read of a name, which must be seen.
func read(t *testing.T, d *vfs.Disk, name string) string {
	t.Helper()
	text, err := d.Read(name)
	if err != nil {
		t.Error(name, err)
	}
	return text
}

// P3.1: the kinds' numbers, as the chapter counts them.
func TestKindsNumbers(t *testing.T) {
	kinds := []int{vfs.Created, vfs.Wrote, vfs.Cutted, vfs.Synced, vfs.Renamed, vfs.Removed, vfs.Dirsynced}
	if !slices.Equal(kinds, []int{1, 2, 3, 4, 5, 6, 7}) {
		t.Error(kinds)
	}
}

// P3.1: a disk of any room is without files; one of a room below 0 is refused.
func TestNew(t *testing.T) {
	for _, room := range []int{0, 1, 120000, math.MaxInt} {
		d := made(t, room)
		if len(d.Names()) != 0 || d.Free() != room || d.Units() != 0 || d.Down() || len(d.Acts()) != 0 {
			t.Error(room, shown(d))
		}
	}
	for _, room := range []int{-1, -2, math.MinInt} {
		if d, err := vfs.New(room); d != nil || err != api.ErrRange {
			t.Error(room, d, err)
		}
	}
}

// P3.1: which names are good, in each place of each call that has one.
func TestNames(t *testing.T) {
	long := strings.Repeat("z", 20)
	for _, name := range []string{"a", "z", "0", "9", ".", "..", "data", "data.new", "a.b.c", "0123456789", "abcdefghijklmnopqrst", "uvwxyz.0123456789", long} {
		d := made(t, 9, create(name), write(name, "12"), cut(name, 1), syncFile(name), rename(name, name), syncDir())
		if text := read(t, d, name); text != "1" || !slices.Equal(d.Names(), []string{name}) {
			t.Errorf("%q: %q %q", name, text, d.Names())
		}
		if text, ok := d.Sure(name); text != "1" || !ok {
			t.Errorf("%q: sure %q %v", name, text, ok)
		}
	}
	bad := []string{"", long + "z", long + long, "A", "aZ", "a b", " a", "a ", "a\n", "a/b", "a-b", "a_b", "a\x00", "\u00e4", "a\xff", "\uff41", "`", "{", ":", "/", "-"}
	for _, name := range bad {
		d := made(t, 9, create("a"), write("a", "12"))
		for _, s := range []step{
			create(name), write(name, ""), write(name, "1"), write(name, "more than free"), cut(name, 0), cut(name, -1), syncFile(name), remove(name),
			rename(name, "a"), rename("a", name), rename(name, name), rename("none", name), rename(name, "none"),
		} {
			refused(t, d, s, api.ErrRange)
		}
		if text, err := d.Read(name); text != "" || err != api.ErrRange {
			t.Errorf("%q: read %q %v", name, text, err)
		}
		if text, ok := d.Sure(name); text != "" || ok {
			t.Errorf("%q: sure %q %v", name, text, ok)
		}
	}
}

// P3.1: each byte, alone and within a name.
func TestNamesEachByte(t *testing.T) {
	for b := range 256 {
		for _, name := range []string{string([]byte{byte(b)}), string([]byte{'a', byte(b), '.'})} {
			d := made(t, 9)
			want := error(api.ErrRange)
			if b >= 'a' && b <= 'z' || b >= '0' && b <= '9' || b == '.' {
				want = nil
			}
			if err := d.Create(name); err != want {
				t.Errorf("%q: %v", name, err)
			}
		}
	}
}

// P3.1: of a call that several errors fit, the one that its sentence names first.
func TestErrorsInOrder(t *testing.T) {
	d := made(t, 3, create("a"), write("a", "12"), arm(0))
	for _, c := range []struct {
		step
		want error
	}{
		{create("A"), api.ErrRange}, {create("a"), api.ErrExists},
		{write("", "12"), api.ErrRange}, {write("b", "12"), api.ErrNone}, {write("b", ""), api.ErrNone}, {write("a", "12"), api.ErrNoSpace}, {write("a", ""), nil},
		{cut("b", -1), api.ErrNone}, {cut("a", -1), api.ErrRange}, {cut("a", 3), api.ErrRange}, {cut("a", math.MinInt), api.ErrRange}, {cut("a", math.MaxInt), api.ErrRange},
		{syncFile("b"), api.ErrNone}, {remove("b"), api.ErrNone},
		{rename("b", "B"), api.ErrRange}, {rename("B", "b"), api.ErrRange}, {rename("b", "a"), api.ErrNone}, {rename("b", "b"), api.ErrNone}, {rename("b", "c"), api.ErrNone},
	} {
		refused(t, d, c.step, c.want)
	}
	// None of them did a unit, so that the power is still there; the next one needs it.
	if d.Down() || d.Sync("a") != api.ErrDown || !d.Down() {
		t.Error("the power")
	}
	for _, c := range []struct {
		step
		want error
	}{
		{create("A"), api.ErrRange}, {create("a"), api.ErrDown}, {create("b"), api.ErrDown},
		{write("A", "12"), api.ErrRange}, {write("a", "12"), api.ErrDown}, {write("b", "1"), api.ErrDown}, {write("a", ""), api.ErrDown},
		{cut("A", 0), api.ErrRange}, {cut("a", 3), api.ErrDown}, {cut("b", 0), api.ErrDown}, {cut("a", 1), api.ErrDown},
		{syncFile("A"), api.ErrRange}, {syncFile("b"), api.ErrDown}, {remove("A"), api.ErrRange}, {remove("b"), api.ErrDown}, {remove("a"), api.ErrDown},
		{rename("A", "a"), api.ErrRange}, {rename("a", "A"), api.ErrRange}, {rename("b", "A"), api.ErrRange}, {rename("b", "a"), api.ErrDown}, {rename("a", "a"), api.ErrDown},
		{syncDir(), api.ErrDown}, {arm(-1), api.ErrRange}, {arm(9), nil}, {create("b"), api.ErrDown},
	} {
		refused(t, d, c.step, c.want)
	}
	for _, name := range []string{"a", "b", "A", ""} {
		if text, err := d.Read(name); text != "" || err != api.ErrDown {
			t.Errorf("%q: %q %v", name, text, err)
		}
	}
	// What isn't asked of the power is told without it.
	if text, ok := d.Sure("a"); text != "" || ok || !slices.Equal(d.Names(), []string{"a"}) || d.Free() != 1 || d.Units() != 3 || len(d.Acts()) != 2 {
		t.Error(shown(d))
	}
}

// P3.1: what each act does, and a unit of each.
func TestActs(t *testing.T) {
	d := made(t, 20)
	for i, c := range []struct {
		step
		names, text string // of a
		free, units int
	}{
		{create("a"), "a", "", 20, 1},
		{write("a", "12345"), "a", "12345", 15, 6},
		{cut("a", 3), "a", "123", 17, 7},
		{cut("a", 3), "a", "123", 17, 8},
		{write("a", ""), "a", "123", 17, 8},
		{write("a", "\x00\xff\n"), "a", "123\x00\xff\n", 14, 11},
		{syncFile("a"), "a", "123\x00\xff\n", 14, 12},
		{syncFile("a"), "a", "123\x00\xff\n", 14, 13},
		{create("b"), "a b", "123\x00\xff\n", 14, 14},
		{write("b", "xyz"), "a b", "123\x00\xff\n", 11, 17},
		{syncDir(), "a b", "123\x00\xff\n", 11, 18},
		{syncDir(), "a b", "123\x00\xff\n", 11, 19},
		{rename("a", "a"), "a b", "123\x00\xff\n", 11, 20},
		{rename("b", "a"), "a", "xyz", 17, 21},
		{create("b"), "a b", "xyz", 17, 22},
		{write("b", strings.Repeat("-", 17)), "a b", "xyz", 0, 39},
		{remove("b"), "a", "xyz", 17, 40},
		{cut("a", 0), "a", "", 20, 41},
		{write("a", strings.Repeat("+", 20)), "a", strings.Repeat("+", 20), 0, 61},
	} {
		if err := c.do(d); err != nil {
			t.Error(i, c.words, err)
		}
		if text := read(t, d, "a"); text != c.text || strings.Join(d.Names(), " ") != c.names || d.Free() != c.free || d.Units() != c.units || d.Down() {
			t.Errorf("%d %s: %q %s", i, c.words, text, shown(d))
		}
	}
	want := []vfs.Act{
		{Kind: vfs.Created, Name: "a"}, {Kind: vfs.Wrote, Name: "a", Bytes: "12345"}, {Kind: vfs.Cutted, Name: "a", At: 3}, {Kind: vfs.Cutted, Name: "a", At: 3},
		{Kind: vfs.Wrote, Name: "a", Bytes: "123\x00\xff\n"[3:]}, {Kind: vfs.Synced, Name: "a"}, {Kind: vfs.Synced, Name: "a"},
		{Kind: vfs.Created, Name: "b"}, {Kind: vfs.Wrote, Name: "b", Bytes: "xyz"}, {Kind: vfs.Dirsynced}, {Kind: vfs.Dirsynced},
		{Kind: vfs.Renamed, Name: "a", Other: "a"}, {Kind: vfs.Renamed, Name: "b", Other: "a"}, {Kind: vfs.Created, Name: "b"},
		{Kind: vfs.Wrote, Name: "b", Bytes: strings.Repeat("-", 17)}, {Kind: vfs.Removed, Name: "b"}, {Kind: vfs.Cutted, Name: "a"},
		{Kind: vfs.Wrote, Name: "a", Bytes: strings.Repeat("+", 20)},
	}
	if !slices.Equal(d.Acts(), want) {
		t.Error(d.Acts())
	}
	// What a crash takes away was done none the less.
	d.Crash(0)
	if !slices.Equal(d.Acts(), want) || d.Units() != 61 {
		t.Error(d.Acts(), d.Units())
	}
}

// P3.1: names are told rising by their bytes, in whatever order they came.
func TestNamesRising(t *testing.T) {
	names := []string{"b", "aa", "z", "a.new", "0", "a", ".", "10", "9", "a0"}
	d := made(t, 0)
	for _, name := range names {
		if err := d.Create(name); err != nil {
			t.Error(name, err)
		}
	}
	want := []string{".", "0", "10", "9", "a", "a.new", "a0", "aa", "b", "z"}
	for range 20 {
		if got := d.Names(); !slices.Equal(got, want) {
			t.Error(got)
		}
	}
}

// P3.1: ErrNoSpace just where there is too little: a file fills the room to its last byte.
func TestRoom(t *testing.T) {
	for room := range 12 {
		d := made(t, room, create("a"), create("b"))
		for n := range room + 1 {
			other := d.Copy()
			if err := other.Write("a", strings.Repeat("x", n)); err != nil || other.Free() != room-n {
				t.Error(room, n, err, other.Free())
			}
			for more := range room + 3 {
				third := other.Copy()
				err := third.Write("b", strings.Repeat("y", more))
				if more <= room-n && (err != nil || third.Free() != room-n-more) {
					t.Error(room, n, more, err, third.Free())
				}
				if more > room-n && (err != api.ErrNoSpace || third.Free() != room-n || third.Units() != other.Units()) {
					t.Error(room, n, more, err, third.Free())
				}
			}
		}
		refused(t, d, write("a", strings.Repeat("x", room+1)), api.ErrNoSpace)
	}
}

// P3.1: a crash may bring names back whose files are more than there is room for: 0 are free then, till there is room again.
func TestFreeIsNotBelowZero(t *testing.T) {
	d := made(t, 10, create("a"), write("a", "12345678"), syncFile("a"), create("b"), syncDir(), remove("a"), write("b", "123456789"), syncFile("b"))
	if d.Free() != 1 {
		t.Error(d.Free())
	}
	d.Crash(0)
	if d.Free() != 0 || read(t, d, "a") != "12345678" || read(t, d, "b") != "123456789" {
		t.Error(shown(d, "a", "b"))
	}
	refused(t, d, write("a", "x"), api.ErrNoSpace)
	if err := d.Write("a", ""); err != nil {
		t.Error(err)
	}
	if err := d.Cut("b", 2); err != nil || d.Free() != 0 {
		t.Error(err, d.Free())
	}
	if err := d.Cut("a", 7); err != nil || d.Free() != 1 {
		t.Error(err, d.Free())
	}
}

// P3.1: a write is cut behind any byte; what is ahead of the power's going waits, and is told.
func TestWriteIsCut(t *testing.T) {
	text := "abcde"
	for left := range 8 {
		d := made(t, 20, create("a"), write("a", "12"), arm(left))
		err := d.Write("a", text)
		done := min(left, len(text))
		if left < len(text) && (err != api.ErrDown || !d.Down()) || left >= len(text) && (err != nil || d.Down()) {
			t.Error(left, err, d.Down())
		}
		if d.Units() != 3+done || d.Free() != 18-done {
			t.Error(left, d.Units(), d.Free())
		}
		want := []vfs.Act{{Kind: vfs.Created, Name: "a"}, {Kind: vfs.Wrote, Name: "a", Bytes: "12"}}
		if done > 0 {
			want = append(want, vfs.Act{Kind: vfs.Wrote, Name: "a", Bytes: text[:done]})
		}
		if !slices.Equal(d.Acts(), want) {
			t.Error(left, d.Acts())
		}
		for kept := range 10 {
			other := d.Copy()
			other.Crash(1, kept)
			if got := read(t, other, "a"); got != ("12" + text[:done])[:min(kept, 2+done)] {
				t.Error(left, kept, got)
			}
		}
	}
}

// P3.1: the power goes ahead of each act that has one unit; nothing of the act is done.
func TestPowerGoesAheadOfActs(t *testing.T) {
	for _, s := range []step{create("c"), write("a", "3"), cut("a", 1), cut("a", 2), syncFile("a"), rename("a", "c"), rename("a", "b"), rename("a", "a"), remove("a"), syncDir()} {
		d := made(t, 9, create("a"), write("a", "12"), create("b"))
		plain := d.Copy()
		if err := d.Arm(0); err != nil || d.Down() {
			t.Error(s.words, err)
		}
		if err := s.do(d); err != api.ErrDown || !d.Down() {
			t.Error(s.words, err)
		}
		if shownBehind(d, "a", "b", "c") != shownBehind(plain, "a", "b", "c") {
			t.Error(s.words, shown(d, "a", "b", "c"))
		}
		// With one unit left the act is done, and the power is still there behind it.
		d = plain.Copy()
		if err := d.Arm(1); err != nil {
			t.Error(err)
		}
		if err := s.do(d); err != nil || d.Down() || d.Units() != 5 {
			t.Error(s.words, err, d.Units())
		}
		if err := d.SyncDir(); err != api.ErrDown || !d.Down() {
			t.Error(s.words, err)
		}
	}
}

// P3.1: arming again holds, and a crash disarms.
func TestArm(t *testing.T) {
	d := made(t, 9, create("a"), arm(1), arm(3), write("a", "123"), arm(0), arm(2), write("a", "45"))
	refused(t, d, arm(-1), api.ErrRange)
	refused(t, d, arm(math.MinInt), api.ErrRange)
	d.Crash(1, 4)
	if err := d.Write("a", "678"); err != nil || d.Down() || read(t, d, "a") != "1234678" {
		t.Error(err, shown(d, "a"))
	}
	if err := d.Arm(math.MaxInt); err != nil {
		t.Error(err)
	}
	if err := d.Write("a", "9"); err != nil || d.Units() != 10 {
		t.Error(err, d.Units())
	}
	if err := d.Arm(0); err != nil || d.Write("a", "0") != api.ErrDown || d.Arm(5) != nil || !d.Down() {
		t.Error("armed without power")
	}
	d.Crash(0)
	if d.Down() || d.Units() != 10 || d.Create("b") != nil {
		t.Error("a crash")
	}
}

// P3.2: the chapter's example.
func TestExample(t *testing.T) {
	d := made(t, 100, create("a"), syncDir(), write("a", "ab"), syncFile("a"), write("a", "cd"), crash(0, 1))
	if got := read(t, d, "a"); got != "abc" {
		t.Errorf("%q", got)
	}
}

// P3.2: of a file each number of units that are kept, with cuts and writes in turn.
func TestCrashKeepsABeginning(t *testing.T) {
	d := made(t, 100, create("a"), write("a", "12345"), syncFile("a"), syncDir(), write("a", "67"), cut("a", 6), cut("a", 6), write("a", "xy"), cut("a", 1), write("a", "z"), cut("a", 0))
	behind := []string{"12345", "123456", "1234567", "123456", "123456", "123456x", "123456xy", "1", "1z", ""}
	for kept := -3; kept < 14; kept++ {
		other := d.Copy()
		other.Crash(0, kept)
		want := behind[min(max(kept, 0), len(behind)-1)]
		if got := read(t, other, "a"); got != want || other.Free() != 100-len(want) {
			t.Error(kept, got, other.Free())
		}
		if sure, ok := other.Sure("a"); sure != want || !ok {
			t.Error(kept, sure, ok)
		}
		// Nothing waits any more.
		for _, again := range []step{crash(0), crash(all, all), crash(-1, -1)} {
			third := other.Copy()
			if again.do(third); read(t, third, "a") != want {
				t.Error(kept, again.words)
			}
		}
	}
	for _, extreme := range []struct {
		dir, data int
		want      string
	}{{math.MinInt, math.MinInt, "12345"}, {math.MaxInt, math.MaxInt, ""}} {
		other := d.Copy()
		other.Crash(extreme.dir, extreme.data, extreme.data, extreme.data)
		if got := read(t, other, "a"); got != extreme.want {
			t.Error(extreme, got)
		}
	}
	// Synced, no number takes anything away.
	if err := d.Write("a", "end"); err != nil || d.Sync("a") != nil {
		t.Error(err)
	}
	for kept := -1; kept < 14; kept++ {
		other := d.Copy()
		if other.Crash(0, kept); read(t, other, "a") != "end" {
			t.Error(kept, shown(other, "a"))
		}
	}
}

// P3.2: of the directory each number of acts that are kept.
func TestCrashOfTheDirectory(t *testing.T) {
	d := made(t, 100, create("a"), write("a", "A"), syncFile("a"), syncDir(), create("b"), write("b", "B"), syncFile("b"), rename("b", "b"), rename("b", "a"), rename("a", "c"), create("a"), remove("c"), remove("a"))
	behind := []string{"a=A", "a=A b=B", "a=B", "c=B", "a= c=B", "a=", ""}
	for kept := -3; kept < 10; kept++ {
		other := d.Copy()
		other.Crash(kept)
		got := ""
		for _, name := range other.Names() {
			got += " " + name + "=" + read(t, other, name)
		}
		if got = strings.TrimPrefix(got, " "); got != behind[min(max(kept, 0), len(behind)-1)] {
			t.Error(kept, got)
		}
		if text, ok := d.Sure("a"); text != "A" || !ok {
			t.Error(text, ok)
		}
	}
	if err := d.SyncDir(); err != nil {
		t.Error(err)
	}
	d.Crash(0)
	if len(d.Names()) != 0 || d.Free() != 100 {
		t.Error(shown(d, "a", "b", "c"))
	}
}

// P3.2: files keep their numbers, whatever becomes of their names; a file that wasn't made has none.
func TestNumbersStay(t *testing.T) {
	d := made(t, 100, create("a"), create("b"), remove("a"), syncDir(), arm(0))
	if err := d.Create("c"); err != api.ErrDown {
		t.Error(err)
	}
	d.Crash(0)
	// The lost Create made no file, so that this one has number 2; b has 1, though it is the only name.
	for _, s := range []step{create("a"), write("b", "bbbb"), write("a", "aaaa"), rename("b", "c"), syncDir(), crash(0, 4, 1, 2)} {
		if err := s.do(d); err != nil {
			t.Error(s.words, err)
		}
	}
	if read(t, d, "c") != "b" || read(t, d, "a") != "aa" {
		t.Error(shown(d, "a", "b", "c"))
	}
}

// P3.2: what is synced of a file is of the file, not of its name; and its name isn't sure by it.
func TestSyncIsOfTheFile(t *testing.T) {
	d := made(t, 100, create("a"), write("a", "1"), syncFile("a"))
	if text, ok := d.Sure("a"); text != "" || ok {
		t.Error(text, ok)
	}
	other := d.Copy()
	if other.Crash(0); len(other.Names()) != 0 {
		t.Error(other.Names())
	}
	other = d.Copy()
	if other.Crash(1); read(t, other, "a") != "1" {
		t.Error(shown(other, "a"))
	}
	for _, s := range []step{syncDir(), write("a", "2"), rename("a", "b"), write("b", "3"), syncFile("b"), create("a"), write("a", "x")} {
		if err := s.do(d); err != nil {
			t.Error(s.words, err)
		}
	}
	if text, ok := d.Sure("a"); text != "123" || !ok {
		t.Error(text, ok)
	}
	if text, ok := d.Sure("b"); text != "" || ok {
		t.Error(text, ok)
	}
	if d.Crash(0, all, all); read(t, d, "a") != "123" || len(d.Names()) != 1 {
		t.Error(shown(d, "a", "b"))
	}
}

// P3.2: Sure is what is read behind a crash without numbers, with and without power.
func TestSure(t *testing.T) {
	d := made(t, 100, create("a"), write("a", "12"), syncFile("a"), write("a", "34"), create("b"), syncDir(), write("b", "5"), create("c"), write("c", "6"), syncFile("c"), remove("b"), rename("a", "d"), arm(0))
	for range 2 {
		behind := d.Copy()
		behind.Crash(0)
		for _, name := range []string{"a", "b", "c", "d", "e", "A", ""} {
			want, err := behind.Read(name)
			if got, ok := d.Sure(name); got != want || ok != (err == nil) {
				t.Errorf("%q: %q %v", name, got, ok)
			}
		}
		if err := d.SyncDir(); err != api.ErrDown {
			t.Error(err)
		}
	}
}

// P3.3: a copy shows the same, and behind it each goes its own way, in all that a disk holds.
func TestCopiesAreApart(t *testing.T) {
	steps := []step{create("c"), write("a", "3"), write("b", "4"), cut("a", 1), syncFile("a"), rename("a", "b"), rename("b", "c"), remove("a"), syncDir(), arm(0), arm(3), crash(0), crash(1, 1, 1), crash(all, all, all)}
	begins := [][]step{
		nil,
		{create("a"), create("b")},
		{create("a"), write("a", "12"), create("b")},
		{create("a"), create("b"), remove("b")},
		{create("a"), write("a", "12"), syncFile("a"), syncDir(), write("a", "x"), create("b"), write("b", "y")},
		{create("a"), create("b"), write("a", "1"), write("a", "2"), write("a", "3"), write("b", "1"), write("b", "2"), write("b", "3"), cut("b", 1), rename("b", "b"), arm(2)},
	}
	for i, begin := range begins {
		for _, one := range steps {
			for _, other := range steps {
				d := made(t, 50, begin...)
				twin := d.Copy()
				was, behind := shown(d, "a", "b", "c"), shownBehind(d, "a", "b", "c")
				if shown(twin, "a", "b", "c") != was || shownBehind(twin, "a", "b", "c") != behind {
					t.Error(i, "no copy")
				}
				one.do(d)
				if shown(twin, "a", "b", "c") != was || shownBehind(twin, "a", "b", "c") != behind {
					t.Error(i, one.words, "changes the copy")
				}
				was, behind = shown(d, "a", "b", "c"), shownBehind(d, "a", "b", "c")
				other.do(twin)
				if shown(d, "a", "b", "c") != was || shownBehind(d, "a", "b", "c") != behind {
					t.Error(i, one.words, other.words, "changes the first one")
				}
				alone := made(t, 50, begin...)
				other.do(alone)
				if shown(twin, "a", "b", "c") != shown(alone, "a", "b", "c") || shownBehind(twin, "a", "b", "c") != shownBehind(alone, "a", "b", "c") {
					t.Error(i, one.words, other.words, "the copy isn't like one that was alone")
				}
			}
		}
	}
}

// P3.3: a copy is armed as the disk is, and has its power.
func TestCopyOfPower(t *testing.T) {
	d := made(t, 50, create("a"), arm(2))
	c := d.Copy()
	if err := c.Write("a", "123"); err != api.ErrDown || !c.Down() || d.Down() || read(t, d, "a") != "" {
		t.Error(err)
	}
	gone := c.Copy()
	if !gone.Down() || gone.SyncDir() != api.ErrDown {
		t.Error("a copy without power")
	}
	gone.Crash(1, 1)
	if gone.Down() || !c.Down() || read(t, gone, "a") != "1" {
		t.Error("a crash of the copy")
	}
	if err := d.Write("a", "12"); err != nil || d.Down() || d.Write("a", "3") != api.ErrDown {
		t.Error(err)
	}
}

// P3.1: what is handed in stays, and isn't kept; what is answered is new.
func TestNothingIsShared(t *testing.T) {
	d := made(t, 50, create("a"), write("a", "1234"), create("b"), write("b", "5678"))
	room := []int{2, 1, 9, 9}
	d.Crash(2, room[:2]...)
	room[0] = 4
	if !slices.Equal(room, []int{4, 1, 9, 9}) || read(t, d, "a") != "12" || read(t, d, "b") != "5" {
		t.Error(room, shown(d, "a", "b"))
	}
	was := shown(d, "a", "b")
	acts, names := d.Acts(), d.Names()
	for i := range acts {
		acts[i] = vfs.Act{}
	}
	for i := range names {
		names[i] = "changed"
	}
	acts, names = append(acts[:1], vfs.Act{Kind: 9}), append(names[:1], "behind")
	if shown(d, "a", "b") != was {
		t.Error(acts, names, shown(d, "a", "b"))
	}
	one, other := d.Acts(), d.Acts()
	one[0].Name = "changed"
	if other[0].Name != "a" {
		t.Error(other)
	}
	if err := d.Create("c"); err != nil || one[0].Name != "changed" || len(other) != 4 {
		t.Error(err, one, other)
	}
}

// P3.1: a nil Disk, at all arguments.
func TestNil(t *testing.T) {
	var d *vfs.Disk
	for _, s := range []step{
		create("a"), create("A"), write("a", "1"), write("", ""), cut("a", 0), cut("A", -1), syncFile("a"), syncFile(""),
		rename("a", "b"), rename("a", "A"), remove("a"), remove("A"), syncDir(), arm(0), arm(-1), arm(5),
	} {
		if err := s.do(d); err != api.ErrDown {
			t.Error(s.words, err)
		}
	}
	d.Crash(0)
	d.Crash(-1, 1, 2, 3)
	for _, name := range []string{"a", "A", ""} {
		if text, err := d.Read(name); text != "" || err != api.ErrDown {
			t.Errorf("%q: %q %v", name, text, err)
		}
		if text, ok := d.Sure(name); text != "" || ok {
			t.Errorf("%q: %q %v", name, text, ok)
		}
	}
	if len(d.Names()) != 0 || d.Free() != 0 || d.Units() != 0 || !d.Down() || len(d.Acts()) != 0 || d.Copy() != nil {
		t.Error("a nil Disk tells something")
	}
}

// P3.1: files of the greatest size, in one write and in many, with a sync behind each.
func TestLongFiles(t *testing.T) {
	text := strings.Repeat("key: value\n", 120000/11)
	d := made(t, 240000, create("a"), write("a", text), create("b"), syncDir())
	for i := range len(text) / 110 {
		if err := d.Write("b", text[i*110:i*110+110]); err != nil {
			t.Fatal(err)
		}
		if i%2 == 0 && d.Sync("b") != nil {
			t.Fatal("sync")
		}
	}
	n := len(text) / 110 * 110
	if read(t, d, "a") != text || read(t, d, "b") != text[:n] || d.Free() != 240000-len(text)-n {
		t.Error("long files")
	}
	d.Crash(0, 70001)
	if read(t, d, "a") != text[:70001] {
		t.Error("a crash")
	}
}
