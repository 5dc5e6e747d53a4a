package file_test

import (
	"math/rand/v2"
	"slices"
	"strings"
	"testing"

	"stanzakeep/amend"
	"stanzakeep/api"
	"stanzakeep/book"
	"stanzakeep/file"
	"stanzakeep/replay"
	"stanzakeep/vfs"
)

// fields are fields of these keys and values, by turns.
func fields(said ...string) []api.Field {
	var all []api.Field
	for pair := range slices.Chunk(said, 2) {
		all = append(all, api.Field{Key: pair[0], Value: pair[1]})
	}
	return all
}

// replace, drop and insert are edits of each kind; the fields are keys and values, by turns.
func replace(id int, said ...string) api.Edit {
	return api.Edit{Kind: api.Replace, ID: id, Fields: fields(said...)}
}
func drop(id int) api.Edit { return api.Edit{Kind: api.Delete, ID: id} }
func insert(id int, said ...string) api.Edit {
	return api.Edit{Kind: api.Insert, ID: id, Fields: fields(said...)}
}

// x is a text of n bytes.
func x(n int) string {
	return strings.Repeat("x", n)
}

// bare is a disk without files.
func bare(t *testing.T, room int) *vfs.Disk {
	t.Helper()
	d, err := vfs.New(room)
	if err != nil {
		t.Fatal(err)
	}
	return d
}

// made is a disk with files, all of it sure, of which names and texts are given by turns.
func made(t *testing.T, room int, said ...string) *vfs.Disk {
	t.Helper()
	d := bare(t, room)
	for pair := range slices.Chunk(said, 2) {
		for _, err := range []error{d.Create(pair[0]), d.Write(pair[0], pair[1]), d.Sync(pair[0]), d.SyncDir()} {
			if err != nil {
				t.Fatal(err)
			}
		}
	}
	return d
}

// opened is a handle of a name.
func opened(t *testing.T, d *vfs.Disk, name string) *file.File {
	t.Helper()
	f, err := file.Open(d, name)
	if err != nil || f == nil {
		t.Fatalf("%s isn't opened: %v", name, err)
	}
	return f
}

// read is what is seen of a file.
func read(t *testing.T, d *vfs.Disk, name string) string {
	t.Helper()
	text, err := d.Read(name)
	if err != nil {
		t.Fatal(name, err)
	}
	return text
}

// since is the acts that were done on a disk behind the first n, as words.
func since(d *vfs.Disk, n int) string {
	var said []string
	for _, act := range d.Acts()[n:] {
		said = append(said, told(act))
	}
	return strings.Join(said, "; ")
}

// record inserts B: 2 behind stanza 1, deletion deletes stanza 1.
const (
	record   = "%amend 17 835b6407\n insert 1\n  B: 2\n%end 17\n"
	deletion = "%amend 10 6662df79\n delete 1\n%end 10\n"
)

// P15.1: which names may be a file's: of 1 to 16 bytes, each of which the disk lets.
func TestGood(t *testing.T) {
	for n := range 40 {
		for _, b := range "af09." {
			if got := file.Good(strings.Repeat(string(b), n)); got != (n >= 1 && n <= 16) {
				t.Error(n, got)
			}
		}
	}
	for b := range 256 {
		good := b >= 'a' && b <= 'z' || b >= '0' && b <= '9' || b == '.'
		for _, name := range []string{"", "a", "abcdefghijklmno"} {
			for _, whole := range []string{string([]byte{byte(b)}) + name, name + string([]byte{byte(b)})} {
				if file.Good(whole) != good {
					t.Errorf("%q: %v", whole, !good)
				}
			}
		}
	}
	for _, name := range []string{"f.new", ".new", "..", "é", "a\x00", "a/b", x(1 << 20), "abcdefghijklmnop", "abcdefghijklm.new"} {
		if file.Good(name) != plainGood(name) {
			t.Errorf("%.30q", name)
		}
	}
}

// P15.1: what Open does, answers and shows, act by act.
func TestOpenWrittenOut(t *testing.T) {
	long := "abcdefghijklmnop"
	for _, c := range []struct {
		disk             []string
		name, acts, text string
	}{
		{nil, "f", "create f; sync directory", ""},
		{[]string{"g", "A: 1\n"}, "f", "create f; sync directory", ""},
		{[]string{"f", ""}, "f", "", ""},
		{[]string{"f", "A: 1\n"}, "f", "", "A: 1\n"},
		{[]string{"f", "A: 1\n" + record}, "f", "", "A: 1\n" + record},
		{[]string{"f", "#%gen 7\n\nA:1\n"}, "f", "", "#%gen 7\n\nA:1\n"},
		// The chapter's example.
		{[]string{"f", "A: 1\n%am"}, "f", "cut f 5; sync f", "A: 1\n"},
		{[]string{"f", "%"}, "f", "cut f 0; sync f", ""},
		{[]string{"f", "#%gen 7\n\n%amend 3"}, "f", "cut f 9; sync f", "#%gen 7\n\n"},
		{[]string{"f", "A: 1\n" + record + deletion[:len(deletion)-1]}, "f", "cut f 49; sync f", "A: 1\n" + record},
		{[]string{"f", "A: 1\n", "f.new", "B: 2\n"}, "f", "remove f.new; sync directory", "A: 1\n"},
		{[]string{"f", "A: 1\n", "f.new", "odd"}, "f", "remove f.new; sync directory", "A: 1\n"},
		{[]string{"f", "A: 1\n", "f.new", ""}, "f", "remove f.new; sync directory", "A: 1\n"},
		{[]string{"f.new", "A: 1\n"}, "f", "remove f.new; sync directory; create f; sync directory", ""},
		{[]string{"f.new", "A: 1\n", "f", "A: 2\n%amend 1"}, "f", "remove f.new; sync directory; cut f 5; sync f", "A: 2\n"},
		// Names that only resemble the aside name stay.
		{[]string{"f", "A: 1\n", "f.new.new", "", "new", "", ".new", "", "f.ne", "", "g.new", ""}, "f", "", "A: 1\n"},
		{[]string{"f.new", "A: 1\n", "f.new.new", ""}, "f.new", "remove f.new.new; sync directory", "A: 1\n"},
		{[]string{long + ".new", ""}, long, "remove " + long + ".new; sync directory; create " + long + "; sync directory", ""},
		{[]string{".new", ""}, ".new", "", ""},
	} {
		d := made(t, 1000, c.disk...)
		n := len(d.Acts())
		f := opened(t, d, c.name)
		if f.Text() != c.text || f.Name() != c.name || f.Check() != nil || read(t, d, c.name) != c.text || since(d, n) != c.acts {
			t.Errorf("%q, %s: %q, %s", c.disk, c.name, f.Text(), since(d, n))
		}
		if sure, ok := d.Sure(c.name); !ok || sure != c.text || plainSees(d, c.name+".new") {
			t.Errorf("%q, %s: surely %q, %v", c.disk, c.name, sure, d.Names())
		}
		holdOpened(t, d, c.name)
		bothAll(t, made(t, 1000, c.disk...), opens(0, c.name), opens(1, c.name))
	}
}

// P15.1: a name that isn't good, or no disk: ErrRange, whatever else there is; nothing is done.
func TestOpenRange(t *testing.T) {
	for _, name := range []string{"", "F", "abcdefghijklmnopq", "abcdefghijklmnop.new", "a b", "a/b", "a_", "a\n", "é", "\xff", x(1 << 16)} {
		down := made(t, 10, "f", "odd")
		down.Arm(0)
		down.SyncDir()
		for _, d := range []*vfs.Disk{nil, bare(t, 10), made(t, 10, "f", "odd", "f.new", ""), down} {
			was := len(d.Acts())
			if f, err := file.Open(d, name); f != nil || err != api.ErrRange || len(d.Acts()) != was {
				t.Errorf("%.30q: %v %v", name, f, err)
			}
		}
	}
	for _, name := range []string{"f", "f.new", "abcdefghijklmnop"} {
		if f, err := file.Open(nil, name); f != nil || err != api.ErrRange {
			t.Error(name, f, err)
		}
	}
}

// P15.1: a wrong text's error is Open's, and its file stays; but an aside file has gone by then.
func TestOpenWrong(t *testing.T) {
	for _, c := range []struct{ text, err string }{
		{"A: 1\nodd\n", "at 1 form"},
		{"A: 1", "at 0 form"},
		{"A: 1\nx%am", "at 1 form"},
		{"#%gen 3\n\nA: 1\nodd\n%am", "at 1 form"},
		{"A: " + x(1001) + "\n", "at 0 value"},
		{strings.Repeat("A: 1\n\n", 401), "at 800 full"},
		{"A: 1\n%x\n", "at 0 corrupt"},
		{"A: 1\n%am\n", "at 0 corrupt"},
		{"A: 1\n" + strings.Replace(record, "B", "C", 1), "at 0 corrupt"},
		{"A: 1\n" + record + record[:19] + "x", "at 1 corrupt"},
		{"A: 1\n" + record + deletion + "x", "at 2 corrupt"},
		{"A: 1\n" + deletion + deletion, "at 1 corrupt"},
		{"A: 1\n" + deletion + record + "%am", "at 1 corrupt"},
		{"#" + x(59999) + "\n", "range"},
		{x(120001), "range"},
		{"A: 1\n%amend 50000 00000000\n " + x(119973), "range"},
	} {
		for _, names := range [][]string{{"f", c.text}, {"f.new", "A: 1\n", "f", c.text}} {
			d := made(t, 200000, names...)
			n, want := len(d.Acts()), ""
			if len(names) > 2 {
				want = "remove f.new; sync directory"
			}
			f, err := file.Open(d, "f")
			if f != nil || word(err) != c.err || since(d, n) != want || read(t, d, "f") != c.text || len(d.Names()) != 1 {
				t.Errorf("%.50q: %v %v, %s", c.text, f, err, since(d, n))
			}
		}
	}
}

// P15.1: an act's error is Open's, as soon as the power goes; without power none is done.
func TestOpenDown(t *testing.T) {
	for _, c := range []struct {
		disk  []string
		units int // that an Open needs
	}{
		{nil, 2},
		{[]string{"f", "A: 1\n"}, 0},
		{[]string{"f", "A: 1\n%am"}, 2},
		{[]string{"f.new", ""}, 4},
		{[]string{"f", "A: 1\n%am", "f.new", "x"}, 4},
	} {
		for n := range 6 {
			d := made(t, 100, c.disk...)
			was := d.Units()
			d.Arm(n)
			f, err := file.Open(d, "f")
			done := min(n, c.units)
			if (err == nil) != (n >= c.units) || (err != nil && err != api.ErrDown) || (f == nil) != (err != nil) || d.Units() != was+done || d.Down() != (n < c.units) {
				t.Error(c, n, f, err, d.Units()-was)
			}
			d = made(t, 100, c.disk...)
			bothAll(t, d, arms(n), opens(0, "f"), opens(1, "f"), crashes(1, 1), opens(2, "f"))
			bothAll(t, d, arms(n), opens(0, "f"), opens(1, "f"), crashes(0), opens(2, "f"))
		}
		d := made(t, 100, c.disk...)
		d.Arm(0)
		d.SyncDir()
		was := len(d.Acts())
		if f, err := file.Open(d, "f"); f != nil || err != api.ErrDown || len(d.Acts()) != was {
			t.Error(c, f, err)
		}
	}
}

// P15.1: an Append writes the record behind the file, syncs it, and the handle's text has it; no other act is done.
func TestAppendWrittenOut(t *testing.T) {
	for _, c := range []struct {
		text   string
		batch  []api.Edit
		record string
	}{
		{"A: 1\n", []api.Edit{insert(1, "B", "2")}, record},
		{"A: 1\n", []api.Edit{drop(1)}, deletion},
		{"", []api.Edit{insert(0, "B", "2")}, strings.NewReplacer("insert 1", "insert 0", "835b6407", "715bce61").Replace(record)},
		{"#%gen 12\n\n# c\n\nA:1\n" + record, []api.Edit{drop(1)}, deletion},
		{"A: 1\n" + deletion + "%amend 1", []api.Edit{insert(0, "C", ".x\n\n"), replace(2, "%am", "y", "B", "")}, ""},
	} {
		d := made(t, 1000, "f", c.text, "f.new", "x")
		f := opened(t, d, "f")
		whole := f.Text()
		want, err := book.Appended(whole, c.batch...)
		if err != nil || c.record != "" && want != whole+c.record {
			t.Fatalf("%q: %q %v", c.text, want, err)
		}
		n := len(d.Acts())
		if err := f.Append(c.batch...); err != nil {
			t.Error(c.text, err)
		}
		acts := d.Acts()[n:]
		if len(acts) != 2 || acts[0] != (vfs.Act{Kind: vfs.Wrote, Name: "f", Bytes: want[len(whole):]}) || acts[1] != (vfs.Act{Kind: vfs.Synced, Name: "f"}) {
			t.Errorf("%q: %s", c.text, since(d, n))
		}
		if sure, _ := d.Sure("f"); f.Text() != want || f.Check() != nil || sure != want || f.Name() != "f" {
			t.Errorf("%q: %q, surely %q", c.text, f.Text(), sure)
		}
		if opened(t, d, "f").Text() != want {
			t.Errorf("%q: opened again as %q", c.text, read(t, d, "f"))
		}
	}
	// An aside file that came there since is none of an Append's business.
	d := made(t, 1000, "f", "A: 1\n")
	f := opened(t, d, "f")
	d.Create("f.new")
	if err := f.Append(drop(1)); err != nil || !plainSees(d, "f.new") {
		t.Error(err, d.Names())
	}
}

// refused holds that a call of a handle of f is refused, and that nothing has changed by it.
func refused(t *testing.T, d *vfs.Disk, f *file.File, what string, want string, call func() error) {
	t.Helper()
	was, acts, text := shownDisk(d), len(d.Acts()), f.Text()
	if err := call(); word(err) != want {
		t.Errorf("%s: %v, not %s", what, err, want)
	}
	if shownDisk(d) != was || len(d.Acts()) != acts || f.Text() != text {
		t.Errorf("%s has changed something", what)
	}
}

// sized is a good batch whose text has n bytes, of at least 30, and which any list takes that has room for it.
func sized(t *testing.T, n int) []api.Edit {
	t.Helper()
	var batch []api.Edit
	for left := n; left > 0; {
		one := api.Edit{Kind: api.Insert}
		for left -= len(" insert 0\n"); left > 0 && len(one.Fields) < 40; {
			value := min(left-len("  A: \n"), 1000)
			if rest := left - value - len("  A: \n"); rest > 0 && rest < 20 {
				value -= 20 // so that there is enough for one more field, or edit
			}
			one.Fields = append(one.Fields, fields("A", x(value))...)
			left -= value + len("  A: \n")
		}
		batch = append(batch, one)
	}
	if amend.Length(batch...) != n {
		t.Fatal(n, amend.Length(batch...))
	}
	return batch
}

// P15.1: what an Append is refused for: of several errors the first one is told; nothing changes.
func TestAppendRefused(t *testing.T) {
	none := []api.Edit{drop(9)}
	long := sized(t, 50001)
	for _, c := range []struct {
		what  string
		batch []api.Edit
		err   string
	}{
		{"no edits", nil, "range"},
		{"41 edits", slices.Repeat([]api.Edit{insert(0, "A", "1")}, 41), "range"},
		{"no kind", []api.Edit{insert(0, "A", "1"), {Kind: 4}}, "at 1 form"},
		{"deletes with fields", []api.Edit{{Kind: api.Delete, ID: 1, Fields: fields("A", "1")}}, "at 0 form"},
		{"no fields", []api.Edit{insert(0)}, "at 0 form"},
		{"41 fields", []api.Edit{{Kind: api.Insert, Fields: slices.Repeat(fields("A", "1"), 41)}}, "at 0 full"},
		{"a bad key", []api.Edit{drop(1), insert(0, "A", "1", "#", "1")}, "at 1 key"},
		{"a long value", []api.Edit{replace(1, "A", x(1001))}, "at 0 value"},
		{"no stanza", none, "at 0 none"},
		{"no stanza any more", []api.Edit{drop(1), replace(1, "A", "1")}, "at 1 none"},
		{"a long batch that the list refuses", append(slices.Clone(long), drop(9)), "at 2 none"},
		{"a long batch", long, "full"},
		{"a batch for which there is too little room", []api.Edit{insert(0, "A", x(900))}, "nospace"},
	} {
		d := made(t, 500, "f", "A: 1\n")
		f := opened(t, d, "f")
		call := func() error { return f.Append(c.batch...) }
		refused(t, d, f, c.what, c.err, call)
		// Who is stale is told so ahead of all that; ahead of this it is told that the power is gone.
		d.Write("f", "B")
		refused(t, d, f, c.what+", stale", "stale", call)
		d.Cut("f", 5)
		refused(t, d, f, c.what+", not stale any more", c.err, call)
		d.Remove("f")
		refused(t, d, f, c.what+", without the name", "stale", call)
		d.Arm(0)
		d.SyncDir()
		refused(t, d, f, c.what+", without power", "down", call)
	}
}

// P15.1: a batch's text of 50000 bytes is the longest one, a file of 120000; and a list has 400 stanzas.
func TestAppendLimits(t *testing.T) {
	for _, c := range []struct {
		base, batch int
		err         string
	}{
		{10, 49999, "nil"}, {10, 50000, "nil"}, {10, 50001, "full"}, {10, 60000, "full"},
		{19934, 50000, "nil"}, {19935, 50000, "full"}, {19935, 49999, "nil"}, {60000, 9000, "nil"}, {60000, 9936, "nil"}, {60000, 9937, "full"}, {60000, 50000, "full"},
	} {
		d := made(t, 300000, "f", "#"+x(c.base-2)+"\n")
		f := opened(t, d, "f")
		if err := f.Append(sized(t, 50000)...); err != nil {
			t.Fatal(c, err)
		}
		was := len(f.Text())
		call := func() error { return f.Append(sized(t, c.batch)...) }
		if c.err != "nil" {
			refused(t, d, f, "a batch", c.err, call)
			continue
		}
		if err := call(); err != nil || len(f.Text()) <= was+c.batch || len(f.Text()) > 120000 {
			t.Error(c, len(f.Text()), err)
		}
		holdOpened(t, d, "f")
		if got := opened(t, d, "f").Text(); got != f.Text() {
			t.Error(c, "opened again:", len(got))
		}
	}
	d := made(t, 300000, "f", strings.Repeat("A: 1\n\n", 399))
	f := opened(t, d, "f")
	refused(t, d, f, "two stanzas", "at 1 full", func() error { return f.Append(insert(0, "A", "1"), insert(0, "A", "2")) })
	if err := f.Append(insert(399, "A", "1")); err != nil {
		t.Error(err)
	}
	refused(t, d, f, "a stanza", "at 0 full", func() error { return f.Append(insert(0, "A", "1")) })
	if err := f.Append(drop(1), insert(400, "A", "1")); err != nil {
		t.Error(err)
	}
}

// P15.1: ErrNoSpace just where fewer bytes are free than the record has; the room is filled to its last byte.
func TestAppendRoom(t *testing.T) {
	for free := range len(record) + 3 {
		for _, others := range []string{"", "others"} {
			d := made(t, len("A: 1\n")+len(others)+free, "f", "A: 1\n", "g", others)
			f := opened(t, d, "f")
			call := func() error { return f.Append(insert(1, "B", "2")) }
			if free < len(record) {
				refused(t, d, f, "a record", "nospace", call)
				continue
			}
			if err := call(); err != nil || d.Free() != free-len(record) || f.Text() != "A: 1\n"+record {
				t.Error(free, err, d.Free())
			}
		}
	}
}

// P15.1: a Swap writes aside, syncs, renames, syncs the directory, in this order; an aside file that is there goes first.
func TestSwapWrittenOut(t *testing.T) {
	behind := "sync f.new; rename f.new f; sync directory"
	for _, c := range []struct{ text, swap, acts string }{
		{"A: 1\n", "B: 2\n", "create f.new; write f.new \"B: 2\\n\"; " + behind},
		{"A: 1\n" + record, "", "create f.new; " + behind},
		{"A: 1\n%am", "A: 1\n", "create f.new; write f.new \"A: 1\\n\"; " + behind},
		{"", "#%gen 3\n\n\n# c\n", "create f.new; write f.new \"#%gen 3\\n\\n\\n# c\\n\"; " + behind},
	} {
		for _, aside := range []bool{false, true} {
			d := made(t, 1000, "f", c.text, "g", "other")
			f := opened(t, d, "f")
			want := c.acts
			if aside {
				d.Create("f.new")
				d.Write("f.new", "what was left")
				want = "remove f.new; sync directory; " + want
			}
			n := len(d.Acts())
			if err := f.Swap(c.swap); err != nil || since(d, n) != want {
				t.Errorf("%q: %v %s", c.swap, err, since(d, n))
			}
			sure, ok := d.Sure("f")
			if f.Text() != c.swap || f.Name() != "f" || f.Check() != nil || !ok || sure != c.swap || !slices.Equal(d.Names(), []string{"f", "g"}) || d.Free() != 995-len(c.swap) {
				t.Errorf("%q: %q, surely %q, %v", c.swap, f.Text(), sure, d.Names())
			}
			holdOpened(t, d, "f")
			if err := f.Append(insert(0, "C", "3")); err != nil || f.Check() != nil {
				t.Errorf("%q: behind it %v", c.swap, err)
			}
		}
	}
	d := made(t, 100, "abcdefghijklmnop", "A: 1\n")
	f := opened(t, d, "abcdefghijklmnop")
	if err := f.Swap("B: 2\n"); err != nil || read(t, d, "abcdefghijklmnop") != "B: 2\n" || f.Name() != "abcdefghijklmnop" {
		t.Error(err, d.Names())
	}
}

// P15.1: what a Swap is refused for: of several errors the first one is told; nothing changes, and an aside file stays.
func TestSwapRefused(t *testing.T) {
	for _, c := range []struct{ what, text, err string }{
		{"an odd line", "A: 1\nodd\n", "at 1 form"},
		{"a line that isn't ended", "A: 1", "at 0 form"},
		{"an odd line, and a tail", "odd\n%am", "at 0 form"},
		{"a long value", "A: 1\nB: " + x(1001) + "\n", "at 1 value"},
		{"401 stanzas", strings.Repeat("A: 1\n\n", 401), "at 800 full"},
		{"a long text", x(120001), "range"},
		{"a long base text", "#" + x(59999) + "\n", "range"},
		{"a broken record", "A: 1\n%am\n", "at 0 corrupt"},
		{"a record, and a broken one", "A: 1\n" + record + "x", "at 1 corrupt"},
		{"a record", "A: 1\n" + record, "range"},
		{"a record that its list refuses", record, "range"},
		{"a tail", "A: 1\n%am", "range"},
		{"a tail of one byte", "%", "range"},
		{"a record and a tail", "A: 1\n" + record + "%", "range"},
		{"a beginning of a long record", "A: 1\n%amend 50000 00000000\n " + x(1000), "range"},
		{"too little room", "# " + x(600) + "\n", "nospace"},
		{"too little room, with a header", "#%gen 4\n\n# " + x(600) + "\n", "nospace"},
	} {
		for _, aside := range []bool{false, true} {
			d := made(t, 500, "f", "A: 1\n")
			f := opened(t, d, "f")
			if aside {
				d.Create("f.new")
				d.Write("f.new", "what was left")
			}
			call := func() error { return f.Swap(c.text) }
			refused(t, d, f, c.what, c.err, call)
			d.Write("f", "B")
			refused(t, d, f, c.what+", stale", "stale", call)
			d.Cut("f", 5)
			refused(t, d, f, c.what+", not stale any more", c.err, call)
			d.Rename("f", "g")
			refused(t, d, f, c.what+", without the name", "stale", call)
			d.Arm(0)
			d.SyncDir()
			refused(t, d, f, c.what+", without power", "down", call)
		}
	}
}

// P15.1: a base text of 60000 bytes is swapped in, with a header and without one.
func TestSwapLimits(t *testing.T) {
	for _, head := range []string{"", "#%gen 2147483648\n\n"} {
		d := made(t, 200000, "f", "A: 1\n"+record)
		f := opened(t, d, "f")
		text := head + "#" + x(59998) + "\n"
		if err := f.Swap(text); err != nil || f.Text() != text || read(t, d, "f") != text {
			t.Error(len(head), err)
		}
		refused(t, d, f, "one byte more", "range", func() error { return f.Swap(head + "#" + x(59999) + "\n") })
	}
}

// P15.1: a Swap needs room for the whole text beside the file that is there, and beside an aside file that is to go.
func TestSwapRoom(t *testing.T) {
	text := "#%gen 1\n\nB: 2\n"
	for free := range len(text) + 3 {
		for _, left := range []int{0, 1, 30} {
			d := made(t, len("A: 1\n")+left+free, "f", "A: 1\n")
			f := opened(t, d, "f")
			if left > 0 {
				d.Create("f.new")
				d.Write("f.new", x(left))
			}
			call := func() error { return f.Swap(text) }
			if free < len(text) {
				refused(t, d, f, "a text", "nospace", call)
				continue
			}
			if err := call(); err != nil || d.Free() != len("A: 1\n")+left+free-len(text) {
				t.Error(free, left, err, d.Free())
			}
		}
	}
	// A text of no bytes fits everywhere.
	d := made(t, 5, "f", "A: 1\n")
	f := opened(t, d, "f")
	if err := f.Swap(""); err != nil || d.Free() != 5 {
		t.Error(err, d.Free())
	}
}

// P15.1: who is stale: whose name isn't seen, or stands for another text than the handle's, however it came there.
func TestStale(t *testing.T) {
	for _, c := range []struct {
		what  string
		stale bool
		do    func(d *vfs.Disk) error
	}{
		{"nothing", false, func(d *vfs.Disk) error { return nil }},
		{"a byte behind", true, func(d *vfs.Disk) error { return d.Write("f", "%") }},
		{"a tail behind", true, func(d *vfs.Disk) error { return d.Write("f", "%amend 3") }},
		{"a record behind", true, func(d *vfs.Disk) error { return d.Write("f", deletion) }},
		{"cut", true, func(d *vfs.Disk) error { return d.Cut("f", 5) }},
		{"cut, and written again", false, func(d *vfs.Disk) error { d.Cut("f", 3); return d.Write("f", "1\n"+record) }},
		{"cut, and written otherwise", true, func(d *vfs.Disk) error { d.Cut("f", 3); return d.Write("f", "2\n"+record) }},
		{"removed", true, func(d *vfs.Disk) error { return d.Remove("f") }},
		{"renamed", true, func(d *vfs.Disk) error { return d.Rename("f", "g") }},
		{"renamed, and back", false, func(d *vfs.Disk) error { d.Rename("f", "g"); return d.Rename("g", "f") }},
		{"another file", true, func(d *vfs.Disk) error { return d.Rename("other", "f") }},
		{"another file of the same text", false, func(d *vfs.Disk) error { return d.Rename("twin", "f") }},
		{"an aside file", false, func(d *vfs.Disk) error { return d.Create("f.new") }},
		{"others", false, func(d *vfs.Disk) error { d.Write("other", "x"); return d.Remove("twin") }},
		{"synced", false, func(d *vfs.Disk) error { d.Sync("f"); return d.SyncDir() }},
		{"a crash", false, func(d *vfs.Disk) error { d.Crash(0); return nil }},
		{"opened again", false, func(d *vfs.Disk) error { _, err := file.Open(d, "f"); return err }},
	} {
		d := made(t, 1000, "f", "A: 1\n"+record, "other", "A: 1\n", "twin", "A: 1\n"+record)
		f := opened(t, d, "f")
		if err := c.do(d); err != nil {
			t.Fatal(c.what, err)
		}
		want := "nil"
		if c.stale {
			want = "stale"
			refused(t, d, f, c.what, want, func() error { return f.Append(drop(2)) })
			refused(t, d, f, c.what, want, func() error { return f.Swap("") })
		}
		refused(t, d, f, c.what, want, f.Check)
		if f.Text() != "A: 1\n"+record || f.Name() != "f" {
			t.Errorf("%s: %q", c.what, f.Text())
		}
		if !c.stale && f.Append(drop(2)) != nil {
			t.Error(c.what, "an Append is refused")
		}
		d.Arm(0)
		d.SyncDir()
		refused(t, d, f, c.what+", without power", "down", f.Check)
	}
	// A name that isn't seen is another thing than a file of no bytes.
	d := bare(t, 10)
	f := opened(t, d, "f")
	d.Remove("f")
	refused(t, d, f, "removed", "stale", f.Check)
	d.Create("f")
	refused(t, d, f, "created again", "nil", f.Check)
}

// P15.1: of several handles of a file one that changes it makes the others stale, till the file is as it was.
func TestHandlesOfOneFile(t *testing.T) {
	d := made(t, 1000, "f", "A: 1\n")
	one, two := opened(t, d, "f"), opened(t, d, "f")
	if err := one.Append(insert(1, "B", "2")); err != nil || one.Check() != nil || two.Check() != api.ErrStale || two.Text() != "A: 1\n" {
		t.Error(err, one.Check(), two.Check())
	}
	three := opened(t, d, "f")
	if three.Text() != one.Text() || three.Append(drop(1)) != nil || one.Check() != api.ErrStale {
		t.Error(three.Text(), one.Check())
	}
	if err := three.Swap("A: 1\n"); err != nil || two.Check() != nil || one.Check() != api.ErrStale || three.Check() != nil {
		t.Error(err, one.Check(), two.Check())
	}
	if err := two.Append(drop(1)); err != nil || three.Check() != api.ErrStale {
		t.Error(err, three.Check())
	}
	// Handles of other names, and of another disk, aren't asked.
	other, far := opened(t, d, "g"), opened(t, d.Copy(), "f")
	if err := other.Append(insert(0, "A", "1")); err != nil || two.Check() != nil || far.Append(insert(0, "C", "")) != nil || two.Check() != nil {
		t.Error(err, two.Check())
	}
}

// P15.1: behind a call that the power cut the handle has the text that it had; whether it is stale, the disk tells.
func TestHandleBehindACrash(t *testing.T) {
	for n := range len(record) + 1 {
		d := made(t, 1000, "f", "A: 1\n")
		f := opened(t, d, "f")
		d.Arm(n)
		if err := f.Append(insert(1, "B", "2")); err != api.ErrDown || f.Text() != "A: 1\n" || f.Check() != api.ErrDown {
			t.Error(n, err, f.Text())
		}
		for kept := range n + 1 {
			d := crashed(d, 0, kept)
			if text := read(t, d, "f"); text != ("A: 1\n" + record)[:5+kept] {
				t.Errorf("%d, %d: %q", n, kept, text)
			}
			if g := opened(t, d, "f"); (g.Text() == "A: 1\n") != (kept < len(record)) {
				t.Errorf("%d, %d: %q", n, kept, g.Text())
			}
		}
		if d.Crash(0, n); n == 0 && f.Check() != nil || n > 0 && f.Check() != api.ErrStale {
			t.Error(n, f.Check())
		}
		if g := opened(t, d, "f"); n < len(record) && (f.Check() != nil || g.Text() != f.Text() || f.Append(drop(1)) != nil) {
			t.Error(n, "cut off, but", f.Check())
		}
	}
}

// move is a call of a handle that gives its file another text.
type move struct {
	words string
	do    func(f *file.File) error
}

func appending(batch ...api.Edit) move {
	return move{"append", func(f *file.File) error { return f.Append(batch...) }}
}

func swapping(text string) move {
	return move{"swap", func(f *file.File) error { return f.Swap(text) }}
}

// cutOff is what was done on an armed disk: what the file was when the power went, and what the call that was on its way would have made of it.
type cutOff struct {
	disk      *vfs.Disk
	now, next string
}

// cutMoves opens a name, and does moves, on a copy of a disk that is armed. texts are those behind the opening, and behind each move.
func cutMoves(t *testing.T, d *vfs.Disk, units int, texts []string, moves []move) cutOff {
	t.Helper()
	d = d.Copy()
	d.Arm(units)
	f, err := file.Open(d, "f")
	if err != nil && err != api.ErrDown {
		t.Fatal(units, err)
	}
	done := cutOff{d, texts[0], texts[0]}
	for i, m := range moves {
		if err != nil {
			break
		}
		done.next = texts[i+1]
		if err = m.do(f); err != nil && err != api.ErrDown {
			t.Fatal(units, m.words, err)
		}
		if err == nil {
			done.now = done.next
		}
		if f.Text() != done.now {
			t.Fatalf("%d, %s: the handle has %q, not %q", units, m.words, f.Text(), done.now)
		}
	}
	return done
}

// holdBehind holds what is opened behind a crash: what the file was, or what it would have been, if that stands there whole.
func holdBehind(t *testing.T, d *vfs.Disk, c cutOff) {
	t.Helper()
	want := c.now
	if text, err := d.Read("f"); err == nil && text == c.next {
		want = c.next
	}
	f, err := file.Open(d.Copy(), "f")
	if err != nil || f.Text() != want {
		t.Fatalf("opened as %q, %v, not as %q", f.Text(), err, want)
	}
	// Read flat, what is there is that text, and perhaps a beginning of a record.
	if text, err := d.Read("f"); err == nil {
		b, _, err := replay.Text(text)
		if err != nil || text != want+b.Tail {
			t.Fatalf("%q is there, not %q: %v", text, want, err)
		}
	}
	holdOpened(t, d, "f")
	holdRecovery(t, d, want)
}

// holdRecovery holds that an opening that is cut, behind any unit, with any part of what waits, leaves what another one opens alike.
func holdRecovery(t *testing.T, d *vfs.Disk, want string) {
	t.Helper()
	whole := d.Copy()
	opened(t, whole, "f")
	for units := range whole.Units() - d.Units() {
		for _, kept := range []int{0, 1, all} {
			other := d.Copy()
			other.Arm(units)
			if f, err := file.Open(other, "f"); f != nil || err != api.ErrDown {
				t.Fatal(units, f, err)
			}
			other.Crash(kept, kept, kept, kept, kept, kept)
			if f, err := file.Open(other, "f"); err != nil || f.Text() != want || !slices.Equal(other.Names(), whole.Names()) {
				t.Fatalf("behind a recovery that was cut: %q, %v, not %q; %v", f.Text(), err, want, other.Names())
			}
		}
	}
}

// P15.2: wherever the power goes within an opening, Appends and Swaps, with any part of what waited.
func TestCrashes(t *testing.T) {
	moves := []move{
		appending(insert(1, "B", "2\n3")), appending(drop(1)), swapping("#%gen 1\n\nB: 2\n 3\n"), appending(replace(1, "C", "4"), insert(0, "D", "5")),
		swapping(""), swapping("# c\n\nA:1\n"), appending(drop(1)), appending(insert(0, "E", "")),
	}
	for _, begin := range [][]string{nil, {"f", "A: 1\n"}, {"f", "#%gen 7\n\n# c\nA:1\n" + record + "%amend 10 6662df79\n delete 1\n%end 10", "f.new", "A: 9\n"}} {
		moves := moves
		if begin == nil {
			moves = append([]move{swapping("A: 1\n")}, moves...)
		}
		d := made(t, 1000, begin...)
		whole := d.Copy()
		f := opened(t, whole, "f")
		texts := []string{f.Text()}
		for _, m := range moves {
			if err := m.do(f); err != nil {
				t.Fatal(m.words, err)
			}
			texts = append(texts, f.Text())
		}
		for units := range whole.Units() - d.Units() + 1 {
			c := cutMoves(t, d, units, texts, moves)
			for _, dir := range []int{-1, 0, 1, 2, all} {
				for _, kept := range []int{0, 1, 2, 7, 20, 29, 30, 31, 32, 36, 37, 38, 44, 50, 60, 80, all} {
					holdBehind(t, crashed(c.disk, dir, kept, kept, kept, kept, kept, kept), c)
				}
				holdBehind(t, crashed(c.disk, dir, 5, 0, 9, 1, all), c)
			}
		}
	}
}

// P15.2: each number of bytes of a record that is kept, behind each that was written.
func TestCrashWithinARecord(t *testing.T) {
	moves := []move{appending(insert(1, "B", "2"))}
	d := made(t, 1000, "f", "A: 1\n")
	for units := range len(record) + 2 {
		c := cutMoves(t, d, units, []string{"A: 1\n", "A: 1\n" + record}, moves)
		for kept := range units + 2 {
			behind := crashed(c.disk, 0, kept)
			holdBehind(t, behind, c)
			if got := opened(t, behind, "f").Text(); (got == "A: 1\n"+record) != (units > len(record) || kept >= len(record) && units == len(record)) {
				t.Errorf("%d, %d: %q", units, kept, got)
			}
		}
	}
}

// leftAside is a disk on which the power went within a Swap, behind a crash, and the handle, if that isn't stale then.
func leftAside(t *testing.T, units, dir int) (*vfs.Disk, *file.File, bool) {
	t.Helper()
	d := made(t, 1000, "f", "A: 1\n")
	f := opened(t, d, "f")
	d.Arm(units)
	if err := f.Swap("B: 2\n"); err != api.ErrDown {
		t.Fatal(units, err)
	}
	d.Crash(dir, all, 3)
	return d, f, f.Check() == nil
}

// P15.2: an aside file that a crash left goes when a handle that isn't stale swaps, wherever the power goes then.
func TestCrashOfASwapWithAnAsideFile(t *testing.T) {
	asides := 0
	for first := range len("B: 2\n") + 4 {
		for dir := range 3 {
			d, f, ok := leftAside(t, first, dir)
			if !ok {
				continue // it was renamed
			}
			if plainSees(d, "f.new") {
				asides++
			}
			was := d.Units()
			if err := f.Swap("C: 3\n\n"); err != nil || read(t, d, "f") != "C: 3\n\n" || len(d.Names()) != 1 {
				t.Error(first, dir, err, d.Names())
			}
			for units := range d.Units() - was {
				other, f, _ := leftAside(t, first, dir)
				other.Arm(units)
				if err := f.Swap("C: 3\n\n"); err != api.ErrDown {
					t.Error(first, dir, units, err)
				}
				for _, again := range []int{0, 1, 2, 3, all} {
					for _, kept := range []int{0, 2, all} {
						holdBehind(t, crashed(other, again, kept, kept, kept, kept), cutOff{other, "A: 1\n", "C: 3\n\n"})
					}
				}
			}
		}
	}
	if asides < 5 {
		t.Error(asides)
	}
}

// P15.2: files that grow, and are swapped, with crashes at random, any number of times.
func TestManyCrashes(t *testing.T) {
	for seed := range 150 {
		r := rand.New(rand.NewPCG(uint64(seed), 152))
		d := bare(t, 600)
		now, next, gone := "", "", 0
		for range 60 {
			if r.IntN(2) == 0 {
				d.Arm(r.IntN(90))
			}
			f, err := file.Open(d, "f")
			if err == nil && f.Text() != now && f.Text() != next {
				t.Fatalf("%d: opened as %q, not as %q or %q", seed, f.Text(), now, next)
			}
			if err == nil {
				now, next = f.Text(), f.Text()
			}
			for err == nil && r.IntN(4) > 0 {
				call := f.Append
				if next, err = book.Appended(now, insert(0, "A", x(r.IntN(20)))); r.IntN(4) == 0 || len(now) > 300 {
					next = []string{"", "A: 1\n", "#%gen 1\n\nB: 2\n"}[r.IntN(3)]
					call = func(...api.Edit) error { return f.Swap(next) }
				} else {
					b, _ := book.Read(next)
					batch := b.Batches[len(b.Batches)-1]
					call = func(...api.Edit) error { return f.Append(batch...) }
				}
				if err = call(); err == nil {
					now = next
				}
			}
			if err != nil && err != api.ErrDown {
				t.Fatal(seed, err)
			}
			if d.Down() {
				gone++
			}
			if err != nil || r.IntN(3) == 0 {
				d.Crash(r.IntN(4)-1, anyData(r)...)
			}
		}
		if gone < 5 {
			t.Error(seed, gone)
		}
	}
}

// P15.3: what is opened is so again, with the same text, by no act; whatever there was.
func TestOpenAgain(t *testing.T) {
	texts := []string{"", "A: 1\n", "#%gen 7\n\n", "# c\n\nA:1\n" + record, "A: 1\n" + record + deletion}
	for _, text := range texts {
		for n := range len(deletion) {
			for _, names := range [][]string{{"f", text + deletion[:n]}, {"f", text + deletion[:n], "f.new", "x"}} {
				d := made(t, 1000, names...)
				if !holdOpened(t, d, "f") {
					t.Errorf("%q isn't opened", names)
				}
				f := opened(t, d, "f")
				was, acts := shownDisk(d), len(d.Acts())
				for range 3 {
					if g := opened(t, d, "f"); g.Text() != text || f.Text() != text || f.Check() != nil || g.Check() != nil {
						t.Errorf("%q: %q", names, g.Text())
					}
				}
				if shownDisk(d) != was || len(d.Acts()) != acts {
					t.Errorf("%q: %s", names, since(d, acts))
				}
				// What was cut off stays so, whatever a crash does.
				d.Crash(0)
				if got := read(t, d, "f"); got != text || len(d.Names()) != 1 {
					t.Errorf("%q: behind a crash %q, %v", names, got, d.Names())
				}
			}
		}
	}
	if d := bare(t, 0); !holdOpened(t, d, "f") || !holdOpened(t, d, "abcdefghijklmnop") {
		t.Error("new names aren't opened")
	}
}

// P15.1: a nil File.
func TestNil(t *testing.T) {
	var f *file.File
	for _, err := range []error{f.Check(), f.Append(), f.Append(drop(1)), f.Append(insert(0, "A", "1")), f.Swap(""), f.Swap("odd"), f.Swap("A: 1\n"), f.Swap(x(120001))} {
		if err != api.ErrDown {
			t.Error(err)
		}
	}
	if f.Text() != "" || f.Name() != "" {
		t.Errorf("%q %q", f.Text(), f.Name())
	}
	// One that no Open made isn't promised anything but that no call panics.
	f = &file.File{}
	f.Text()
	f.Name()
	f.Check()
	f.Append(drop(1))
	f.Swap("A: 1\n")
}

// P15.1: a batch that is handed in stays as it was, with its spare room, and isn't kept; errors are new.
func TestArgumentsStay(t *testing.T) {
	d := made(t, 1000, "f", "A: 1\n")
	f := opened(t, d, "f")
	whole := []api.Edit{insert(1, "B", "2", "Z", "behind"), drop(77)}
	whole[0].Fields = whole[0].Fields[:1]
	if err := f.Append(whole[:1]...); err != nil || whole[1].ID != 77 || whole[0].Fields[:2][1].Value != "behind" || whole[0].Fields[0] != (api.Field{Key: "B", Value: "2"}) {
		t.Error(err, whole)
	}
	whole[0].Fields[0].Value, whole[0].ID = "changed", 5
	if f.Text() != "A: 1\n"+record || f.Check() != nil {
		t.Errorf("%q", f.Text())
	}
	first, second := f.Append(drop(9)), f.Append(drop(9))
	first.(*api.Fault).At = 7
	if word(second) != "at 0 none" || word(f.Append(drop(9))) != "at 0 none" {
		t.Error(first, second)
	}
}
