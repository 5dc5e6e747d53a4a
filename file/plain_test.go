package file_test

import (
	"errors"
	"math/rand/v2"
	"slices"
	"strconv"
	"strings"
	"testing"

	"stanzakeep/api"
	"stanzakeep/book"
	"stanzakeep/edit"
	"stanzakeep/file"
	"stanzakeep/replay"
	"stanzakeep/vfs"
)

// The chapter's words, act by act, in the plainest way there is: the tests hold the calls against these.

// plainFile is a handle.
type plainFile struct {
	disk       *vfs.Disk
	name, text string
}

// plainGood is Good.
func plainGood(name string) bool {
	for _, b := range []byte(name) {
		if !strings.Contains("abcdefghijklmnopqrstuvwxyz0123456789.", string(rune(b))) {
			return false
		}
	}
	return len(name) >= 1 && len(name) <= 16
}

// plainSees tells whether a name is seen.
func plainSees(d *vfs.Disk, name string) bool {
	return slices.Contains(d.Names(), name)
}

// plainRemove removes the aside name and syncs the directory, if the name is seen.
func plainRemove(d *vfs.Disk, name string) error {
	if !plainSees(d, name+".new") {
		return nil
	}
	if err := d.Remove(name + ".new"); err != nil {
		return err
	}
	return d.SyncDir()
}

// plainOpen is Open.
func plainOpen(d *vfs.Disk, name string) (*plainFile, error) {
	if d == nil || !plainGood(name) {
		return nil, api.ErrRange
	}
	if err := plainRemove(d, name); err != nil {
		return nil, err
	}
	if !plainSees(d, name) {
		if err := d.Create(name); err != nil {
			return nil, err
		}
		if err := d.SyncDir(); err != nil {
			return nil, err
		}
	}
	text, err := d.Read(name)
	if err != nil {
		return nil, err
	}
	b, _, err := replay.Text(text)
	if err != nil {
		return nil, err
	}
	if b.Tail != "" {
		if err := d.Cut(name, len(text)-len(b.Tail)); err != nil {
			return nil, err
		}
		if err := d.Sync(name); err != nil {
			return nil, err
		}
	}
	return &plainFile{d, name, strings.TrimSuffix(text, b.Tail)}, nil
}

func (f *plainFile) Text() string {
	if f == nil {
		return ""
	}
	return f.text
}

func (f *plainFile) Name() string {
	if f == nil {
		return ""
	}
	return f.name
}

func (f *plainFile) Check() error {
	if f == nil || f.disk.Down() {
		return api.ErrDown
	}
	if !plainSees(f.disk, f.name) {
		return api.ErrStale
	}
	if text, _ := f.disk.Read(f.name); text != f.text {
		return api.ErrStale
	}
	return nil
}

func (f *plainFile) Append(batch ...api.Edit) error {
	if err := f.Check(); err != nil {
		return err
	}
	_, l, _ := replay.Text(f.text)
	if _, _, err := edit.Do(l, batch...); err != nil {
		return err
	}
	next, err := book.Appended(f.text, batch...)
	if err != nil {
		return err
	}
	record := strings.TrimPrefix(next, f.text)
	if f.disk.Free() < len(record) {
		return api.ErrNoSpace
	}
	if f.disk.Write(f.name, record) != nil || f.disk.Sync(f.name) != nil {
		return api.ErrDown
	}
	f.text = next
	return nil
}

func (f *plainFile) Swap(text string) error {
	if err := f.Check(); err != nil {
		return err
	}
	b, err := book.Read(text)
	if err != nil {
		return err
	}
	if len(b.Ends) != 0 || len(b.Tail) != 0 {
		return api.ErrRange
	}
	if f.disk.Free() < len(text) {
		return api.ErrNoSpace
	}
	d, aside := f.disk, f.name+".new"
	if plainRemove(d, f.name) != nil || d.Create(aside) != nil || d.Write(aside, text) != nil || d.Sync(aside) != nil || d.Rename(aside, f.name) != nil || d.SyncDir() != nil {
		return api.ErrDown
	}
	f.text = text
	return nil
}

// handle is what a File and a plain one have in common.
type handle interface {
	Text() string
	Name() string
	Check() error
	Append(batch ...api.Edit) error
	Swap(text string) error
}

// open opens a File as a handle; none beside an error.
func open(d *vfs.Disk, name string) (handle, error) {
	f, err := file.Open(d, name)
	if f == nil {
		return nil, err
	}
	return f, err
}

// openPlain opens a plain one.
func openPlain(d *vfs.Disk, name string) (handle, error) {
	f, err := plainOpen(d, name)
	if f == nil {
		return nil, err
	}
	return f, err
}

// world is a disk, and handles in three seats.
type world struct {
	disk  *vfs.Disk
	open  func(d *vfs.Disk, name string) (handle, error)
	seats [3]handle
}

// pair is two worlds of copies of a disk, with nil handles in all seats: one of Files, one of plain ones.
func pair(d *vfs.Disk) (*world, *world) {
	var f *file.File
	var p *plainFile
	return &world{d.Copy(), open, [3]handle{f, f, f}}, &world{d.Copy(), openPlain, [3]handle{p, p, p}}
}

// step is something that is done with a world, with its words.
type step struct {
	words string
	do    func(*world) error
}

// opens puts a handle of a name into a seat; where an error is answered, the seat keeps the one that it had.
func opens(seat int, name string) step {
	return step{"open " + strconv.Itoa(seat) + " " + strconv.Quote(name), func(w *world) error {
		f, err := w.open(w.disk, name)
		if (f == nil) != (err != nil) {
			return errors.New("a handle beside an error, or neither")
		}
		if f != nil {
			w.seats[seat] = f
		}
		return err
	}}
}

// appends and swaps are these calls of a seat's handle.
func appends(seat int, batch ...api.Edit) step {
	words := "append " + strconv.Itoa(seat)
	for _, x := range batch {
		words += " " + strconv.Itoa(x.Kind) + ":" + strconv.Itoa(x.ID)
	}
	return step{words, func(w *world) error { return w.seats[seat].Append(batch...) }}
}

func swaps(seat int, text string) step {
	return step{"swap " + strconv.Itoa(seat) + " " + strconv.Quote(text), func(w *world) error { return w.seats[seat].Swap(text) }}
}

// onDisk is an act, or some, of somebody else on the disk.
func onDisk(words string, do func(d *vfs.Disk) error) step {
	return step{words, func(w *world) error { return do(w.disk) }}
}

func writes(name, text string) step {
	return onDisk("write "+name+" "+strconv.Quote(text), func(d *vfs.Disk) error { return d.Write(name, text) })
}

func creates(name, text string) step {
	return onDisk("create "+name+" "+strconv.Quote(text), func(d *vfs.Disk) error { return errors.Join(d.Create(name), d.Write(name, text)) })
}

func cuts(name string, n int) step {
	return onDisk("cut "+name+" "+strconv.Itoa(n), func(d *vfs.Disk) error { return d.Cut(name, n) })
}

func removes(name string) step {
	return onDisk("remove "+name, func(d *vfs.Disk) error { return d.Remove(name) })
}

func renames(from, to string) step {
	return onDisk("rename "+from+" "+to, func(d *vfs.Disk) error { return d.Rename(from, to) })
}

func syncs(name string) step {
	return onDisk("sync "+name, func(d *vfs.Disk) error { return errors.Join(d.Sync(name), d.SyncDir()) })
}

func arms(units int) step {
	return onDisk("arm "+strconv.Itoa(units), func(d *vfs.Disk) error { return d.Arm(units) })
}

func crashes(dir int, data ...int) step {
	words := "crash " + strconv.Itoa(dir)
	for _, units := range data {
		words += " " + strconv.Itoa(units)
	}
	return onDisk(words, func(d *vfs.Disk) error {
		d.Crash(dir, data...)
		return nil
	})
}

// word tells an error by its word, and its place, if it is a Fault.
func word(err error) string {
	if err == nil {
		return "nil"
	}
	if f, ok := err.(*api.Fault); ok {
		if inner, ok := f.Err.(api.Errno); ok {
			return "at " + strconv.Itoa(f.At) + " " + inner.Error()
		}
		return "at " + strconv.Itoa(f.At) + " something else: " + f.Error()
	}
	if e, ok := err.(api.Errno); ok {
		return e.Error()
	}
	return "something else: " + err.Error()
}

// shownDisk is all that a disk tells but for its acts, also behind crashes.
func shownDisk(d *vfs.Disk) string {
	var b strings.Builder
	for _, behind := range []*vfs.Disk{d, crashed(d, 0), crashed(d, 1, all, all, all, all), crashed(d, all, 1, 2, 3, 4)} {
		b.WriteString("\n\tfree " + strconv.Itoa(behind.Free()) + ", units " + strconv.Itoa(behind.Units()) + ", down " + strconv.FormatBool(behind.Down()))
		for _, name := range behind.Names() {
			text, err := behind.Read(name)
			b.WriteString("; " + name + " " + strconv.Quote(text) + " " + word(err))
		}
	}
	return b.String()
}

// shown is all that a world tells.
func shown(w *world) string {
	var b strings.Builder
	for _, f := range w.seats {
		b.WriteString(strconv.Quote(f.Name()) + " " + strconv.Quote(f.Text()) + " " + word(f.Check()) + "; ")
	}
	b.WriteString(shownDisk(w.disk))
	for _, act := range w.disk.Acts() {
		b.WriteString("\n\t" + told(act))
	}
	return b.String()
}

// told is an act as words.
func told(act vfs.Act) string {
	kinds := []string{"no act", "create", "write", "cut", "sync", "rename", "remove", "sync directory"}
	said := kinds[act.Kind]
	if act.Name != "" {
		said += " " + act.Name
	}
	if act.Other != "" {
		said += " " + act.Other
	}
	if act.Bytes != "" {
		said += " " + strconv.Quote(act.Bytes)
	}
	if act.Kind == vfs.Cutted {
		said += " " + strconv.Itoa(act.At)
	}
	return said
}

// all is more than ever waits.
const all = 1 << 40

// crashed is a copy of a disk behind a crash.
func crashed(d *vfs.Disk, dir int, data ...int) *vfs.Disk {
	other := d.Copy()
	other.Crash(dir, data...)
	return other
}

// both does a step in both worlds, holds what they answer and show against each other, and answers what they answered.
func both(t *testing.T, w, p *world, s step) string {
	t.Helper()
	got, want := word(s.do(w)), word(s.do(p))
	if got != want {
		t.Errorf("%s: %s, not %s", s.words, got, want)
	}
	if got, want := shown(w), shown(p); got != want {
		t.Errorf("%s: %s\nnot\n%s", s.words, got, want)
	}
	return got
}

// bothAll does steps in two worlds that begin alike.
func bothAll(t *testing.T, d *vfs.Disk, steps ...step) {
	t.Helper()
	w, p := pair(d)
	for at, s := range steps {
		both(t, w, p, s)
		if t.Failed() {
			for _, done := range steps[:at] {
				t.Log("behind", done.words)
			}
			t.FailNow()
		}
	}
}

// holdOpened holds that what is opened is so again: with the same text, by no act. It tells whether the name can be opened.
func holdOpened(t *testing.T, d *vfs.Disk, name string) bool {
	t.Helper()
	d = d.Copy()
	f, err := file.Open(d, name)
	if err != nil {
		return false
	}
	text, acts := read(t, d, name), d.Acts()
	if f.Text() != text || f.Name() != name || f.Check() != nil {
		t.Errorf("%s: opened as %q %q, but there is %q: %v", name, f.Name(), f.Text(), text, f.Check())
	}
	d.Arm(0)
	again, err := file.Open(d, name)
	if err != nil || again.Text() != text || !slices.Equal(d.Acts(), acts) || d.Down() {
		t.Errorf("%s: opened again: %q %v, not %q", name, again.Text(), err, text)
	}
	return true
}

// P15.1, P15.3: all sequences of three of some steps, behind each of some beginnings.
func TestAllShortSequences(t *testing.T) {
	begins := [][]step{
		nil,
		{creates("f", "A: 1\n"), syncs("f"), opens(0, "f"), opens(1, "f")},
		{creates("f", "A:1\n%amend 10 6662df79\n delete 1\n%end 10\n%am"), creates("f.new", "# c\n"), opens(0, "f"), arms(45)},
	}
	steps := []step{
		opens(0, "f"), opens(1, "f"), opens(2, "f.new"), appends(0, insert(0, "B", "2")), appends(1, drop(1)), appends(2, insert(0, "C", "3"), drop(1)),
		swaps(0, "A:1\n"), swaps(1, "#%gen 1\n\n"), swaps(2, "# x\n"), writes("f", "%"), creates("f.new", "A: 9\n"), cuts("f", 0), removes("f"), renames("f.new", "f"),
		syncs("f"), arms(1), arms(4), crashes(0), crashes(1, 3, 3, 3), crashes(all, all, all, all),
	}
	for _, begin := range begins {
		for _, one := range steps {
			for _, two := range steps {
				for _, three := range steps {
					bothAll(t, bare(t, 120), append(slices.Clone(begin), one, two, three)...)
				}
			}
		}
	}
}

// anyFields are a stanza's fields, or none.
func anyFields(r *rand.Rand) []api.Field {
	return fields([][]string{{"A", "1"}, {"B", ""}, {"C", "x\n\n.y"}, {"%amend 3", "%am"}, {"A", "1", "A", "2"}, {"D", x(30)}, {}}[r.IntN(7)]...)
}

// anyBatch is some batch; it may be none that is good.
func anyBatch(r *rand.Rand) []api.Edit {
	var batch []api.Edit
	for range r.IntN(4) {
		edit := api.Edit{Kind: 1 + r.IntN(3), ID: r.IntN(6)}
		if edit.Kind != api.Delete {
			edit.Fields = anyFields(r)
		}
		batch = append(batch, edit)
	}
	if len(batch) > 0 {
		batch[0] = insert([]int{0, 0, 1}[r.IntN(3)], "A", "2")
	}
	return batch
}

// anyText is some text of a file; it may be wrong.
func anyText(r *rand.Rand) string {
	return []string{"", "A: 1\n", "#%gen 3\n\nA: 1\n\nB:2\n", "# c\n\nA: x\n y\n", "odd\n", "A: 1\n%", "A: 1\n%amend 10 6662df79\n delete 1\n%end 10\n", "\n\n", "A: 1"}[r.IntN(9)]
}

// anyData are numbers of a crash.
func anyData(r *rand.Rand) []int {
	data := make([]int, r.IntN(9))
	for i := range data {
		data[i] = []int{-1, 0, r.IntN(70), r.IntN(20), all}[r.IntN(5)]
	}
	return data
}

// anyStep is some step.
func anyStep(r *rand.Rand) step {
	seat, names := r.IntN(3), []string{"f", "f", "f", "f.new", "other", "abcdefghijklmnop"}
	name, other := names[r.IntN(6)], names[r.IntN(6)]
	switch r.IntN(24) {
	case 0, 1, 2, 3:
		return opens(seat, name)
	case 4, 5, 6, 7, 8, 9:
		return appends(seat, anyBatch(r)...)
	case 10, 11, 12:
		return swaps(seat, anyText(r))
	case 13:
		return creates(name, anyText(r))
	case 14:
		return writes(name, []string{"%", "%amend 1", "A: 1\n", "x", ""}[r.IntN(5)])
	case 15:
		return cuts(name, r.IntN(30)-1)
	case 16:
		return removes(name)
	case 17:
		return renames(name, other)
	case 18:
		return syncs(name)
	case 19:
		return arms(r.IntN(80))
	case 20:
		return opens(seat, []string{"", "F", "abcdefghijklmnopq", "a/b", "\xff"}[r.IntN(5)])
	}
	return crashes([]int{-1, 0, 1, 2, 3, all}[r.IntN(6)], anyData(r)...)
}

// P15.1, P15.2, P15.3: long sequences of any steps, on disks of all sizes.
func TestLongSequences(t *testing.T) {
	answers := map[string]int{}
	for seed := range 300 {
		r := rand.New(rand.NewPCG(uint64(seed), 15))
		w, p := pair(bare(t, []int{0, 40, 90, 150, 300, 5000}[seed%6]))
		var said []string
		for range 60 {
			s := anyStep(r)
			said = append(said, s.words)
			answers[strings.Fields(s.words)[0]+" "+both(t, w, p, s)]++
			for _, name := range []string{"f", "f.new", "other"} {
				holdOpened(t, w.disk, name)
			}
			if t.Failed() {
				t.Fatal(seed, strings.Join(said, "; "))
			}
		}
	}
	for _, answer := range []string{"open nil", "open range", "open down", "open at 0 form", "open at 0 corrupt", "append nil", "append stale", "append down", "append nospace", "append range", "append at 0 none", "append at 1 none", "append at 1 form", "swap nil", "swap stale", "swap down", "swap nospace", "swap range", "swap at 0 form"} {
		if answers[answer] < 5 {
			t.Error(answer, answers)
		}
	}
}
