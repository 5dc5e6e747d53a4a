package compact_test

import (
	"math/rand/v2"
	"slices"
	"strconv"
	"strings"
	"testing"

	"stanzakeep/api"
	"stanzakeep/compact"
	"stanzakeep/file"
	"stanzakeep/vfs"
)

// all is more than ever waits.
const all = 1 << 40

// made is a disk with files, all of it sure, of which names and texts are given by turns.
func made(t *testing.T, room int, said ...string) *vfs.Disk {
	t.Helper()
	d, err := vfs.New(room)
	if err != nil {
		t.Fatal(err)
	}
	for pair := range slices.Chunk(said, 2) {
		for _, err := range []error{d.Create(pair[0]), d.Write(pair[0], pair[1]), d.Sync(pair[0]), d.SyncDir()} {
			if err != nil {
				t.Fatal(err)
			}
		}
	}
	return d
}

// opened is a handle of a name.
func opened(t *testing.T, d *vfs.Disk, name string) *file.File {
	t.Helper()
	f, err := file.Open(d, name)
	if err != nil || f == nil {
		t.Fatalf("%s isn't opened: %v", name, err)
	}
	return f
}

// shown is all that a disk tells, also behind crashes.
func shown(d *vfs.Disk) string {
	var b strings.Builder
	for _, crash := range []int{-1, 0, 1, all} {
		behind := d.Copy()
		if crash >= 0 {
			behind.Crash(crash, crash, crash, crash, crash)
		}
		b.WriteString("\nfree " + strconv.Itoa(behind.Free()) + ", units " + strconv.Itoa(behind.Units()) + ", acts " + strconv.Itoa(len(behind.Acts())) + ", down " + strconv.FormatBool(behind.Down()))
		for _, name := range behind.Names() {
			text, err := behind.Read(name)
			b.WriteString("; " + name + " " + strconv.Quote(text) + " " + word(err))
		}
	}
	return b.String()
}

// refused holds that a Do is refused, and that nothing has changed by it.
func refused(t *testing.T, d *vfs.Disk, f *file.File, what, want string) {
	t.Helper()
	was, text := shown(d), f.Text()
	if err := compact.Do(f); word(err) != want {
		t.Errorf("%s: %v, not %s", what, err, want)
	}
	if now := shown(d); now != was || f.Text() != text {
		t.Errorf("%s: has changed %s\nto %s", what, was, now)
	}
}

// acts is what a Do does that writes this text aside.
func acts(name, text string) []vfs.Act {
	aside := name + ".new"
	return []vfs.Act{
		{Kind: vfs.Created, Name: aside}, {Kind: vfs.Wrote, Name: aside, Bytes: text}, {Kind: vfs.Synced, Name: aside},
		{Kind: vfs.Renamed, Name: aside, Other: name}, {Kind: vfs.Dirsynced},
	}
}

// clearing is what a Do does ahead of that, if an aside file is there.
func clearing(name string) []vfs.Act {
	return []vfs.Act{{Kind: vfs.Removed, Name: name + ".new"}, {Kind: vfs.Dirsynced}}
}

// holdDone holds what there is behind a Do that answered nil, the first acts of the disk being of others.
func holdDone(t *testing.T, d *vfs.Disk, f *file.File, fresh string, n int, want []vfs.Act) {
	t.Helper()
	if got := d.Acts()[n:]; !slices.Equal(got, want) {
		t.Errorf("%q: %v, not %v", fresh, got, want)
	}
	sure, ok := d.Sure(f.Name())
	if f.Text() != fresh || f.Check() != nil || !ok || sure != fresh || slices.Contains(d.Names(), f.Name()+".new") {
		t.Errorf("%q: the handle has %q, %v; surely there is %q; %v", fresh, f.Text(), f.Check(), sure, d.Names())
	}
	if g := opened(t, d.Copy(), f.Name()); g.Text() != fresh {
		t.Errorf("%q: opened again as %q", fresh, g.Text())
	}
}

// P16.1, P16.3: what a Do makes of a file, act by act; an aside file that is there goes first.
func TestDoWrittenOut(t *testing.T) {
	for _, c := range []struct{ name, text, fresh string }{
		{"f", "A: 1\n" + record, "#%gen 1\n\nA: 1\n\nB: 2\n"},
		{"f", "", "#%gen 1\n\n"},
		{"f", "A: 1\n%am", "#%gen 1\n\nA: 1\n"},
		{"f", "#%gen 9\n\n# c\n\nA:1\n", "#%gen 10\n\n# c\n\nA:1\n"},
		{"f", "#%gen 2147483647\n\nA: 1\n" + deletion, "#%gen 2147483648\n\n"},
		{"abcdefghijklmnop", "A:1\n" + record + deletion, "#%gen 1\n\nB: 2\n"},
		{"f.new", "A: 1\n" + record, "#%gen 1\n\nA: 1\n\nB: 2\n"},
	} {
		for _, aside := range []bool{false, true} {
			d := made(t, 1000, c.name, c.text, "g", "other")
			f := opened(t, d, c.name)
			want := acts(c.name, c.fresh)
			if aside {
				d.Create(c.name + ".new")
				d.Write(c.name+".new", "what was left")
				want = append(clearing(c.name), want...)
			}
			n := len(d.Acts())
			if err := compact.Do(f); err != nil {
				t.Errorf("%q: %v", c.text, err)
			}
			holdDone(t, d, f, c.fresh, n, want)
			if f.Name() != c.name || d.Free() != 1000-len("other")-len(c.fresh) || !slices.Contains(d.Names(), "g") || len(d.Names()) != 2 {
				t.Errorf("%q: %s, %v, %d free", c.text, f.Name(), d.Names(), d.Free())
			}
		}
	}
}

// P16.1: a file is compacted again and again, and written behind in between; its stanzas have new numbers each time.
func TestDoAgain(t *testing.T) {
	d := made(t, 1000, "f", "A: 1\n")
	f := opened(t, d, "f")
	for gen := 1; gen <= 12; gen++ {
		if err := f.Append(insert(1, "B", strconv.Itoa(gen)), drop(1)); err != nil {
			t.Fatal(gen, err)
		}
		if ids, err := compact.Touched(f.Text()); !slices.Equal(ids, []int{2}) || err != nil {
			t.Error(gen, ids, err)
		}
		n, fresh := len(d.Acts()), "#%gen "+strconv.Itoa(gen)+"\n\nB: "+strconv.Itoa(gen)+"\n"
		if err := compact.Do(f); err != nil {
			t.Error(gen, err)
		}
		holdDone(t, d, f, fresh, n, acts("f", fresh))
	}
	for gen := 13; gen <= 15; gen++ {
		if err := compact.Do(f); err != nil || f.Text() != "#%gen "+strconv.Itoa(gen)+"\n\nB: 12\n" {
			t.Errorf("%d: %v, %q", gen, err, f.Text())
		}
	}
	if err := f.Append(drop(2)); word(err) != "at 0 none" {
		t.Error("an old number:", err)
	}
}

// P16.1: what a Do is refused for: of several errors the first one is told; nothing changes, and an aside file stays.
func TestDoRefused(t *testing.T) {
	end := "#%gen 2147483648\n\n"
	for _, c := range []struct {
		what, text, err string
		room            int
	}{
		{"the last generation", end + "A: 1\n" + record, "range", 200000},
		{"the last generation, torn", end + "A: 1\n" + record + "%", "range", 200000},
		{"a list that is too long", full(t, "", 60001), "full", 200000},
		{"the last generation, a list that is too long", full(t, end, 60001), "range", 200000},
		{"too little room", "A: 1\n" + record, "nospace", 60},
		{"the last generation, too little room", end + "A: 1\n" + record, "range", 70},
		{"a list that is too long, too little room", full(t, "", 60001), "full", 60600},
		{"a list of 60000 bytes, too little room", full(t, "", 60000), "nospace", 60600},
	} {
		for _, aside := range []string{"", "x"} {
			d := made(t, c.room, "f", c.text)
			f := opened(t, d, "f")
			if aside != "" {
				d.Create("f.new")
				d.Write("f.new", aside)
			}
			refused(t, d, f, c.what, c.err)
			// Who is stale is told so ahead of all that; ahead of this it is told that the power is gone.
			n := len(f.Text())
			d.Write("f", "%")
			refused(t, d, f, c.what+", stale", "stale")
			d.Cut("f", n)
			refused(t, d, f, c.what+", not stale any more", c.err)
			d.Rename("f", "g")
			refused(t, d, f, c.what+", without the name", "stale")
			d.Arm(0)
			d.SyncDir()
			refused(t, d, f, c.what+", without power", "down")
		}
	}
}

// P16.1: a list's text of 60000 bytes is compacted, though the file has more than these then.
func TestDoLongest(t *testing.T) {
	text := full(t, "#%gen 2147483646\n\n", 60000)
	d := made(t, 200000, "f", text)
	f := opened(t, d, "f")
	fresh := told(text).fresh
	n := len(d.Acts())
	if err := compact.Do(f); err != nil || len(fresh) != 60018 {
		t.Error(len(fresh), err)
	}
	holdDone(t, d, f, fresh, n, acts("f", fresh))
	if err := compact.Do(f); err != nil || len(f.Text()) != 60018 {
		t.Error(len(f.Text()), err)
	}
	refused(t, d, f, "the last generation", "range")
}

// P16.1: ErrNoSpace just where fewer bytes are free than the fresh text has, beside the file and an aside file that is to go.
func TestDoRoom(t *testing.T) {
	text, fresh := "A: 1\n"+record, "#%gen 1\n\nA: 1\n\nB: 2\n"
	for free := range len(fresh) + 3 {
		for _, left := range []int{0, 1, 40} {
			d := made(t, len(text)+left+free, "f", text)
			f := opened(t, d, "f")
			var want []vfs.Act
			if left > 0 {
				d.Create("f.new")
				d.Write("f.new", x(left))
				want = clearing("f")
			}
			if free < len(fresh) {
				refused(t, d, f, "a compaction", "nospace")
				continue
			}
			n := len(d.Acts())
			if err := compact.Do(f); err != nil || d.Free() != len(text)+left+free-len(fresh) {
				t.Error(free, left, err, d.Free())
			}
			holdDone(t, d, f, fresh, n, append(want, acts("f", fresh)...))
		}
	}
}

// P16.1: a Do makes the file's other handles stale; a stale one compacts nothing, till the file is opened again.
func TestDoOfOneFile(t *testing.T) {
	d := made(t, 1000, "f", "A: 1\n", "g", "A: 1\n")
	one, two, other := opened(t, d, "f"), opened(t, d, "f"), opened(t, d, "g")
	if err := two.Append(insert(1, "B", "2")); err != nil {
		t.Fatal(err)
	}
	refused(t, d, one, "behind an Append", "stale")
	if err := compact.Do(two); err != nil {
		t.Error(err)
	}
	refused(t, d, one, "behind a compaction", "stale")
	three := opened(t, d, "f")
	if err := compact.Do(three); err != nil || three.Text() != "#%gen 2\n\nA: 1\n\nB: 2\n" {
		t.Errorf("%v %q", err, three.Text())
	}
	refused(t, d, two, "behind another handle's compaction", "stale")
	if err := compact.Do(other); err != nil || three.Check() != nil || other.Text() != "#%gen 1\n\nA: 1\n" {
		t.Errorf("another file: %v %q", err, other.Text())
	}
	d.Remove("g")
	refused(t, d, other, "removed", "stale")
}

// P16.1: a nil File.
func TestDoNil(t *testing.T) {
	if err := compact.Do(nil); err != api.ErrDown {
		t.Error(err)
	}
	// One that no Open made isn't promised anything but that no call panics.
	compact.Do(&file.File{})
}

// P16.1, P16.3: wherever the power goes within a Do, with any part of what waited: the file is as it was, or fresh, whole.
func TestDoCrashes(t *testing.T) {
	for _, c := range []struct{ text, fresh, aside string }{
		{"A: 1\n" + record, "#%gen 1\n\nA: 1\n\nB: 2\n", ""},
		{"A: 1\n" + record, "#%gen 1\n\nA: 1\n\nB: 2\n", "#%gen 1\n\nwhat was left"},
		{"#%gen 41\n\n# c\n\nA:1\n" + deletion, "#%gen 42\n\n# c\n\n", ""},
		{"", "#%gen 1\n\n", "x"},
	} {
		begin := func() (*vfs.Disk, *file.File) {
			d := made(t, 1000, "f", c.text)
			f := opened(t, d, "f")
			if c.aside != "" {
				for _, err := range []error{d.Create("f.new"), d.Write("f.new", c.aside), d.Sync("f.new"), d.SyncDir()} {
					if err != nil {
						t.Fatal(err)
					}
				}
			}
			return d, f
		}
		ahead := 0
		if c.aside != "" {
			ahead = 2
		}
		// It is created, written byte by byte, synced, renamed, and the directory synced.
		for units := range ahead + 1 + len(c.fresh) + 3 {
			d, f := begin()
			was := d.Units()
			d.Arm(units)
			if err := compact.Do(f); err != api.ErrDown || f.Text() != c.text || d.Units() != was+units {
				t.Fatalf("%q, %d: %v, %q, %d", c.text, units, err, f.Text(), d.Units()-was)
			}
			renamed := units > ahead+1+len(c.fresh)+1
			for _, dir := range []int{-1, 0, 1, 2, all} {
				for _, kept := range []int{0, 1, 9, len(c.fresh) - 1, all} {
					want := c.text
					if renamed && dir >= 2 {
						want = c.fresh
					}
					holdCrash(t, d, dir, kept, want)
				}
			}
		}
		d, f := begin()
		d.Arm(ahead + 1 + len(c.fresh) + 3)
		if err := compact.Do(f); err != nil || f.Text() != c.fresh {
			t.Errorf("%q: %v", c.text, err)
		}
		holdCrash(t, d, 0, 0, c.fresh)
	}
}

// holdCrash holds what is read and opened behind a crash, and that it is compacted then, whatever was left aside.
func holdCrash(t *testing.T, d *vfs.Disk, dir, kept int, want string) {
	t.Helper()
	d = d.Copy()
	d.Crash(dir, kept, kept, kept, kept)
	if text, err := d.Read("f"); text != want || err != nil {
		t.Fatalf("%d, %d: %q is there, not %q: %v", dir, kept, text, want, err)
	}
	f := opened(t, d, "f")
	n, fresh := len(d.Acts()), told(want).fresh
	if f.Text() != want {
		t.Fatalf("%d, %d: opened as %q, not %q", dir, kept, f.Text(), want)
	}
	if err := compact.Do(f); err != nil {
		t.Fatalf("%d, %d: %v", dir, kept, err)
	}
	holdDone(t, d, f, fresh, n, acts("f", fresh))
}

// P16.1, P16.3: compactions of files at random, on disks with much room and with little, that may be cut, with crashes behind.
func TestDoAnyFiles(t *testing.T) {
	answers := map[string]int{}
	for seed := range 1500 {
		r := rand.New(rand.NewPCG(uint64(seed), 163))
		text := anyFile(t, r)
		d := made(t, len(text)+[]int{2000, r.IntN(100)}[r.IntN(2)], "f", text)
		f := opened(t, d, "f")
		text = f.Text()
		if r.IntN(8) == 0 {
			d.Write("f", "#")
		}
		if r.IntN(3) == 0 {
			d.Arm(r.IntN(150))
		}
		want, fresh := plainDo(d, text)
		n, was := len(d.Acts()), shown(d)
		err := compact.Do(f)
		answers[word(err)]++
		if word(err) != want {
			t.Fatalf("%d: %q: %v, not %s", seed, text, err, want)
		}
		switch want {
		case "nil":
			holdDone(t, d, f, fresh, n, acts("f", fresh))
		case "down":
			if got := d.Acts()[n:]; f.Text() != text || !slices.Equal(got, beginning(d, acts("f", fresh), len(got))) {
				t.Fatalf("%d: %q: %v", seed, f.Text(), got)
			}
		default:
			if shown(d) != was || f.Text() != text {
				t.Fatalf("%d: %q: changed to %s", seed, text, shown(d))
			}
		}
	}
	for _, answer := range []string{"nil", "down", "stale", "range", "nospace"} {
		if answers[answer] < 30 {
			t.Error(answer, answers)
		}
	}
}

// plainDo is the word that a Do of f answers, by a handle of this text, and the fresh text; the power is there, but may be going.
func plainDo(d *vfs.Disk, text string) (string, string) {
	p := told(text)
	seen, _ := d.Read("f")
	switch {
	case seen != text:
		return "stale", ""
	case p.freshErr != nil:
		return word(p.freshErr), ""
	case d.Free() < len(p.fresh):
		return "nospace", p.fresh
	}
	// Whether it is armed, and with how many units, only acts tell.
	tried := d.Copy()
	tried.Create("f.new")
	tried.Write("f.new", p.fresh)
	tried.Sync("f.new")
	tried.Rename("f.new", "f")
	if tried.SyncDir() != nil {
		return "down", p.fresh
	}
	return "nil", p.fresh
}

// beginning is the first n of some acts; if the last one of these is the Write, the power may have gone within it.
func beginning(d *vfs.Disk, whole []vfs.Act, n int) []vfs.Act {
	part := slices.Clone(whole[:min(n, len(whole))])
	if n == 2 {
		behind := d.Copy()
		behind.Crash(all, all, all)
		part[1].Bytes, _ = behind.Read("f.new")
	}
	return part
}
