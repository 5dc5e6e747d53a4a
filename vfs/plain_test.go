package vfs_test

import (
	"math/rand/v2"
	"slices"
	"strconv"
	"strings"
	"testing"

	"stanzakeep/api"
	"stanzakeep/vfs"
)

// The chapter's words, unit by unit, in the plainest way there is: the tests hold the calls against these.

// plainUnit is a byte that was written, or a cut.
type plainUnit struct {
	cut bool
	b   byte
	at  int
}

// plainFile is a file's sure bytes, and what waits of it.
type plainFile struct {
	sure  []byte
	waits []plainUnit
}

// plainName is a name and the number of its file.
type plainName struct {
	name string
	file int
}

// plainChange is an act on the directory: the names behind it, of those ahead of it.
type plainChange func([]plainName) []plainName

// plainDisk is what a Disk holds.
type plainDisk struct {
	room  int
	files []plainFile
	sure  []plainName
	waits []plainChange
	units int
	armed bool
	left  int
	down  bool
	acts  []vfs.Act
}

// seen is what is sure, and then the first n of what waits.
func (f plainFile) seen(n int) []byte {
	bytes := slices.Clone(f.sure)
	for i, u := range f.waits {
		if i >= n {
			break
		}
		if u.cut {
			bytes = bytes[:u.at]
		} else {
			bytes = append(bytes, u.b)
		}
	}
	return bytes
}

// seen is the names that are sure, and then the first n of what waits.
func (p *plainDisk) seen(n int) []plainName {
	names := slices.Clone(p.sure)
	for i, change := range p.waits {
		if i >= n {
			break
		}
		names = change(names)
	}
	return names
}

// without is names without one.
func without(names []plainName, name string) []plainName {
	var others []plainName
	for _, n := range names {
		if n.name != name {
			others = append(others, n)
		}
	}
	return others
}

// number is the number of the file that a name stands for.
func number(names []plainName, name string) (int, bool) {
	for _, n := range names {
		if n.name == name {
			return n.file, true
		}
	}
	return 0, false
}

// plainGood tells whether a name is good.
func plainGood(name string) bool {
	for _, b := range []byte(name) {
		if !strings.Contains("abcdefghijklmnopqrstuvwxyz0123456789.", string(rune(b))) {
			return false
		}
	}
	return len(name) >= 1 && len(name) <= 20
}

// unit does a unit, or answers ErrDown.
func (p *plainDisk) unit() error {
	if p.down {
		return api.ErrDown
	}
	if p.armed && p.left == 0 {
		p.down = true
		return api.ErrDown
	}
	p.units++
	if p.armed {
		p.left--
	}
	return nil
}

// do does an act of one unit.
func (p *plainDisk) do(act vfs.Act) error {
	err := p.unit()
	if err == nil {
		p.acts = append(p.acts, act)
	}
	return err
}

// begin is what all acts begin with.
func (p *plainDisk) begin(names ...string) error {
	for _, name := range names {
		if !plainGood(name) {
			return api.ErrRange
		}
	}
	if p.down {
		return api.ErrDown
	}
	return nil
}

// find is begin, and then ErrNone, if the first name isn't seen.
func (p *plainDisk) find(names ...string) (int, error) {
	if err := p.begin(names...); err != nil {
		return 0, err
	}
	file, ok := number(p.seen(all), names[0])
	if !ok {
		return 0, api.ErrNone
	}
	return file, nil
}

// all is more than waits in any test.
const all = 1 << 40

func (p *plainDisk) Create(name string) error {
	if err := p.begin(name); err != nil {
		return err
	}
	if _, ok := number(p.seen(all), name); ok {
		return api.ErrExists
	}
	err := p.do(vfs.Act{Kind: 1, Name: name})
	if err == nil {
		put := plainName{name, len(p.files)}
		p.files = append(p.files, plainFile{})
		p.waits = append(p.waits, func(names []plainName) []plainName { return append(names, put) })
	}
	return err
}

func (p *plainDisk) Write(name, text string) error {
	file, err := p.find(name)
	if err != nil {
		return err
	}
	if p.Free() < len(text) {
		return api.ErrNoSpace
	}
	written := ""
	for _, b := range []byte(text) {
		if err = p.unit(); err != nil {
			break
		}
		p.files[file].waits = append(p.files[file].waits, plainUnit{b: b})
		written += string([]byte{b})
	}
	if written != "" {
		p.acts = append(p.acts, vfs.Act{Kind: 2, Name: name, Bytes: written})
	}
	return err
}

func (p *plainDisk) Cut(name string, n int) error {
	file, err := p.find(name)
	if err != nil {
		return err
	}
	if n < 0 || n > len(p.files[file].seen(all)) {
		return api.ErrRange
	}
	if err = p.do(vfs.Act{Kind: 3, Name: name, At: n}); err == nil {
		p.files[file].waits = append(p.files[file].waits, plainUnit{cut: true, at: n})
	}
	return err
}

func (p *plainDisk) Sync(name string) error {
	file, err := p.find(name)
	if err != nil {
		return err
	}
	if err = p.do(vfs.Act{Kind: 4, Name: name}); err == nil {
		p.files[file] = plainFile{sure: p.files[file].seen(all)}
	}
	return err
}

func (p *plainDisk) Rename(from, to string) error {
	file, err := p.find(from, to)
	if err != nil {
		return err
	}
	if err = p.do(vfs.Act{Kind: 5, Name: from, Other: to}); err == nil && from != to {
		p.waits = append(p.waits, func(names []plainName) []plainName {
			return append(without(without(names, from), to), plainName{to, file})
		})
	}
	return err
}

func (p *plainDisk) Remove(name string) error {
	if _, err := p.find(name); err != nil {
		return err
	}
	err := p.do(vfs.Act{Kind: 6, Name: name})
	if err == nil {
		p.waits = append(p.waits, func(names []plainName) []plainName { return without(names, name) })
	}
	return err
}

func (p *plainDisk) SyncDir() error {
	if p.down {
		return api.ErrDown
	}
	err := p.do(vfs.Act{Kind: 7})
	if err == nil {
		p.sure, p.waits = p.seen(all), nil
	}
	return err
}

func (p *plainDisk) Read(name string) (string, error) {
	if p.down {
		return "", api.ErrDown
	}
	file, err := p.find(name)
	if err != nil {
		return "", err
	}
	return string(p.files[file].seen(all)), nil
}

func (p *plainDisk) Sure(name string) (string, bool) {
	behind := p.Copy()
	behind.Crash(0)
	text, err := behind.Read(name)
	return text, err == nil
}

func (p *plainDisk) Names() []string {
	var names []string
	for _, n := range p.seen(all) {
		names = append(names, n.name)
	}
	slices.Sort(names)
	return names
}

func (p *plainDisk) Free() int {
	free := p.room
	for _, n := range p.seen(all) {
		free -= len(p.files[n.file].seen(all))
	}
	if free < 0 {
		return 0
	}
	return free
}

func (p *plainDisk) Units() int      { return p.units }
func (p *plainDisk) Down() bool      { return p.down }
func (p *plainDisk) Acts() []vfs.Act { return p.acts }

func (p *plainDisk) Arm(units int) error {
	if units < 0 {
		return api.ErrRange
	}
	p.armed, p.left = true, units
	return nil
}

func (p *plainDisk) Crash(dir int, data ...int) {
	p.sure, p.waits = p.seen(dir), nil
	for i, f := range p.files {
		units := 0
		if i < len(data) {
			units = data[i]
		}
		p.files[i] = plainFile{sure: f.seen(units)}
	}
	p.down, p.armed, p.left = false, false, 0
}

func (p *plainDisk) Copy() *plainDisk {
	other := *p
	other.files = nil
	for _, f := range p.files {
		other.files = append(other.files, plainFile{slices.Clone(f.sure), slices.Clone(f.waits)})
	}
	other.sure, other.waits, other.acts = slices.Clone(p.sure), slices.Clone(p.waits), slices.Clone(p.acts)
	return &other
}

// disk is what a Disk and a plain one have in common.
type disk interface {
	Create(name string) error
	Write(name, text string) error
	Cut(name string, n int) error
	Sync(name string) error
	Rename(from, to string) error
	Remove(name string) error
	SyncDir() error
	Read(name string) (string, error)
	Sure(name string) (string, bool)
	Names() []string
	Free() int
	Units() int
	Down() bool
	Arm(units int) error
	Crash(dir int, data ...int)
	Acts() []vfs.Act
}

// step is a call on a disk, with its words.
type step struct {
	words string
	do    func(disk) error
}

func create(name string) step {
	return step{"create " + name, func(d disk) error { return d.Create(name) }}
}

func write(name, text string) step {
	return step{"write " + name + " " + strconv.Quote(text), func(d disk) error { return d.Write(name, text) }}
}

func cut(name string, n int) step {
	return step{"cut " + name + " " + strconv.Itoa(n), func(d disk) error { return d.Cut(name, n) }}
}

func syncFile(name string) step {
	return step{"sync " + name, func(d disk) error { return d.Sync(name) }}
}

func rename(from, to string) step {
	return step{"rename " + from + " " + to, func(d disk) error { return d.Rename(from, to) }}
}

func remove(name string) step {
	return step{"remove " + name, func(d disk) error { return d.Remove(name) }}
}

func syncDir() step {
	return step{"sync dir", func(d disk) error { return d.SyncDir() }}
}

func arm(units int) step {
	return step{"arm " + strconv.Itoa(units), func(d disk) error { return d.Arm(units) }}
}

func crash(dir int, data ...int) step {
	words := "crash " + strconv.Itoa(dir)
	for _, units := range data {
		words += " " + strconv.Itoa(units)
	}
	return step{words, func(d disk) error {
		d.Crash(dir, data...)
		return nil
	}}
}

// word tells an error by its word.
func word(err error) string {
	if err == nil {
		return "nil"
	}
	return err.Error()
}

// shown is all that a disk tells, of these names.
func shown(d disk, names ...string) string {
	var b strings.Builder
	b.WriteString(strings.Join(d.Names(), " ") + "; free " + strconv.Itoa(d.Free()) + ", units " + strconv.Itoa(d.Units()) + ", down " + strconv.FormatBool(d.Down()))
	for _, name := range names {
		text, err := d.Read(name)
		sure, ok := d.Sure(name)
		b.WriteString("; " + name + " " + strconv.Quote(text) + " " + word(err) + ", sure " + strconv.Quote(sure) + " " + strconv.FormatBool(ok))
	}
	for _, act := range d.Acts() {
		b.WriteString("\n\t" + strconv.Itoa(act.Kind) + " " + strconv.Quote(act.Name) + " " + strconv.Quote(act.Other) + " " + strconv.Quote(act.Bytes) + " " + strconv.Itoa(act.At))
	}
	return b.String()
}

// pair is a disk and a plain one, of the same room.
func pair(t *testing.T, room int) (*vfs.Disk, *plainDisk) {
	t.Helper()
	d, err := vfs.New(room)
	if err != nil || d == nil {
		t.Fatal(err)
	}
	return d, &plainDisk{room: room}
}

// both does a step on both disks, and tells whether they answered the same.
func both(t *testing.T, d *vfs.Disk, p *plainDisk, s step) bool {
	t.Helper()
	got, want := word(s.do(d)), word(s.do(p))
	if got != want {
		t.Errorf("%s: %s, not %s", s.words, got, want)
	}
	return got == want
}

// same tells whether both disks show the same.
func same(t *testing.T, d *vfs.Disk, p *plainDisk, names ...string) bool {
	t.Helper()
	got, want := shown(d, names...), shown(p, names...)
	if got != want {
		t.Errorf("%s\nnot\n%s", got, want)
	}
	return got == want
}

// P3.1, P3.2: all sequences of four of some steps, each with what is shown ahead of a crash and behind crashes.
func TestAllShortSequences(t *testing.T) {
	steps := []step{
		create("a"), create("b"), write("a", "12"), write("b", "345"), cut("a", 1), cut("b", 0), syncFile("a"),
		rename("a", "b"), rename("b", "b"), remove("b"), syncDir(), arm(1), crash(1, 2, 1),
	}
	crashes := []step{crash(0), crash(all, all, all, all), crash(1, 1, 2), crash(2, 3), crash(-1, -1, 1, 4)}
	begin, plain := pair(t, 6)
	for _, s := range []step{create("a"), write("a", "xyz"), syncFile("a")} {
		both(t, begin, plain, s)
	}
	var follow func(d *vfs.Disk, p *plainDisk, words string, n int)
	follow = func(d *vfs.Disk, p *plainDisk, words string, n int) {
		if t.Failed() {
			return
		}
		if !same(t, d, p, "a", "b") {
			t.Fatal(words)
		}
		for _, c := range crashes {
			d, p := d.Copy(), p.Copy()
			if !both(t, d, p, c) || !same(t, d, p, "a", "b") {
				t.Fatal(words, c.words)
			}
		}
		for _, s := range steps {
			if n == 0 {
				return
			}
			d, p := d.Copy(), p.Copy()
			if !both(t, d, p, s) {
				t.Fatal(words, s.words)
			}
			follow(d, p, words+", "+s.words, n-1)
		}
	}
	follow(begin, plain, "a: xyz", 4)
}

// anyStep is some step, of these names.
func anyStep(r *rand.Rand, names []string) step {
	name, other := names[r.IntN(len(names))], names[r.IntN(len(names))]
	switch n := r.IntN(24); {
	case n < 3:
		return create(name)
	case n < 9:
		return write(name, strings.Repeat(string([]byte{byte('a' + r.IntN(26)), byte(r.IntN(256))}), r.IntN(6)))
	case n < 12:
		return cut(name, r.IntN(14)-2)
	case n < 14:
		return syncFile(name)
	case n < 17:
		return rename(name, other)
	case n < 18:
		return remove(name)
	case n < 20:
		return syncDir()
	case n < 21:
		return arm(r.IntN(20) - 1)
	case n < 22:
		return crash(r.IntN(6)-1, r.IntN(12)-1, r.IntN(12)-1, r.IntN(12)-1)
	}
	data := make([]int, r.IntN(9))
	for i := range data {
		data[i] = r.IntN(20) - 2
	}
	return crash(r.IntN(9)-1, data...)
}

// P3.1, P3.2: long sequences of any steps, with good names and others, on rooms of all sizes.
func TestLongSequences(t *testing.T) {
	names := []string{"a", "b", "c.new", "aaaaaaaaaaaaaaaaaaaa", "0", "aaaaaaaaaaaaaaaaaaaaa", "", "A"}
	for seed := range 400 {
		r := rand.New(rand.NewPCG(uint64(seed), 3))
		d, p := pair(t, []int{0, 3, 10, 25, 40, 1000}[seed%6])
		said := ""
		for range 120 {
			s := anyStep(r, names[:4+seed%5])
			said += "\n" + s.words
			if !both(t, d, p, s) || !same(t, d, p, names...) {
				t.Fatal(said)
			}
		}
	}
}
