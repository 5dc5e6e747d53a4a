package index_test

import (
	"fmt"
	"math"
	"slices"
	"testing"

	"stanzakeep/api"
	"stanzakeep/index"
)

// The chapter's words in the plainest way there is: the tests hold the calls against these.

// plainIndex is the stanzas that are known, in no order; a nil one is that of a nil Index.
type plainIndex struct {
	stanzas []api.Stanza
}

// put is Put.
func (p *plainIndex) put(id int, fields []api.Field) error {
	if p == nil || id < 1 {
		return api.ErrRange
	}
	p.drop(id)
	p.stanzas = append(p.stanzas, api.Stanza{ID: id, Fields: slices.Clone(fields)})
	return nil
}

// drop is Drop.
func (p *plainIndex) drop(id int) bool {
	if p == nil {
		return false
	}
	before := len(p.stanzas)
	p.stanzas = slices.DeleteFunc(p.stanzas, func(s api.Stanza) bool { return s.ID == id })
	return len(p.stanzas) < before
}

// fields is all fields of all stanzas.
func (p *plainIndex) fields() []api.Field {
	var all []api.Field
	if p != nil {
		for _, s := range p.stanzas {
			all = append(all, s.Fields...)
		}
	}
	return all
}

// having is the numbers of the stanzas with a good field.
func (p *plainIndex) having(good func(f api.Field) bool) []int {
	var ids []int
	if p != nil {
		for _, s := range p.stanzas {
			if slices.ContainsFunc(s.Fields, good) {
				ids = append(ids, s.ID)
			}
		}
	}
	slices.Sort(ids)
	return ids
}

// with is With.
func (p *plainIndex) with(key string) []int {
	return p.having(func(f api.Field) bool { return f.Key == key })
}

// equal is Equal.
func (p *plainIndex) equal(key, value string) []int {
	return p.having(func(f api.Field) bool { return f.Key == key && f.Value == value })
}

// between is Between.
func (p *plainIndex) between(key, lo, hi string) []int {
	return p.having(func(f api.Field) bool { return f.Key == key && f.Value >= lo && f.Value <= hi })
}

// keys is Keys.
func (p *plainIndex) keys() []string {
	var keys []string
	for _, f := range p.fields() {
		if !slices.Contains(keys, f.Key) {
			keys = append(keys, f.Key)
		}
	}
	slices.Sort(keys)
	return keys
}

// values is Values.
func (p *plainIndex) values(key string) []string {
	var values []string
	for _, f := range p.fields() {
		if f.Key == key && !slices.Contains(values, f.Value) {
			values = append(values, f.Value)
		}
	}
	slices.Sort(values)
	return values
}

// count is Count.
func (p *plainIndex) count(key, value string) int {
	count := 0
	for _, f := range p.fields() {
		if f.Key == key && f.Value == value {
			count++
		}
	}
	return count
}

// len is Len.
func (p *plainIndex) len() int {
	if p == nil {
		return 0
	}
	return len(p.stanzas)
}

// act is one of the calls that change an index: 'p' or 'd'.
type act struct {
	kind   byte
	id     int
	fields []api.Field
}

// holdAct does an act on both, and holds what is answered.
func holdAct(t *testing.T, x *index.Index, p *plainIndex, a act) {
	t.Helper()
	if a.kind == 'd' {
		want := p.drop(a.id)
		if got := x.Drop(a.id); got != want {
			t.Fatalf("Drop %d: %v, not %v", a.id, got, want)
		}
		return
	}
	want := p.put(a.id, a.fields)
	if err := x.Put(a.id, a.fields...); err != want {
		t.Fatalf("Put %d %q: %v, not %v", a.id, a.fields, err, want)
	}
}

// keyOrValue are texts to be asked for: such that others hold, or are held by, or come right before or behind in rising order.
func keyOrValue() []string {
	return []string{"", "\x00", "\n", "10", "9", "A", "A\x00", "AB", "B", "Z", "a", "é", "\xff"}
}

// hold holds all that is shown of an index against the plain one, asked for these keys and values.
func hold(t *testing.T, x *index.Index, p *plainIndex, keys, values []string) {
	t.Helper()
	if got, want := x.Keys(), p.keys(); !slices.Equal(got, want) {
		t.Fatalf("Keys: %q, not %q", got, want)
	}
	if got, want := x.Len(), p.len(); got != want {
		t.Fatalf("Len: %d, not %d", got, want)
	}
	for _, key := range keys {
		if got, want := x.With(key), p.with(key); !slices.Equal(got, want) {
			t.Fatalf("With %q: %v, not %v", key, got, want)
		}
		if got, want := x.Values(key), p.values(key); !slices.Equal(got, want) {
			t.Fatalf("Values %q: %q, not %q", key, got, want)
		}
		for _, value := range values {
			holdValue(t, x, p, key, value)
			for _, hi := range values {
				if got, want := x.Between(key, value, hi), p.between(key, value, hi); !slices.Equal(got, want) {
					t.Fatalf("Between %q %q %q: %v, not %v", key, value, hi, got, want)
				}
			}
		}
	}
}

// holdValue holds what is shown of a key's value.
func holdValue(t *testing.T, x *index.Index, p *plainIndex, key, value string) {
	t.Helper()
	if got, want := x.Equal(key, value), p.equal(key, value); !slices.Equal(got, want) {
		t.Fatalf("Equal %q %q: %v, not %v", key, value, got, want)
	}
	if got, want := x.Count(key, value), p.count(key, value); got != want {
		t.Fatalf("Count %q %q: %d, not %d", key, value, got, want)
	}
}

// same holds that two indexes show the same: all that either has, and beside it.
func same(t *testing.T, x, y *index.Index) {
	t.Helper()
	if shown(x) != shown(y) {
		t.Fatalf("%s, not %s", shown(x), shown(y))
	}
}

// shown is all that an index shows of its keys and values, as a text.
func shown(x *index.Index) string {
	text := fmt.Sprint(x.Len(), ";")
	for _, key := range x.Keys() {
		text += fmt.Sprintf("%q%v", key, x.With(key))
		values := x.Values(key)
		for i, value := range values {
			text += fmt.Sprintf("%q%v%d", value, x.Equal(key, value), x.Count(key, value))
			text += fmt.Sprint(x.Between(key, values[i/2], value))
		}
		text += ";"
	}
	return text
}

// noNumbers are numbers that no stanza has.
func noNumbers() []int {
	return []int{math.MinInt, -1, 0}
}

// fields are fields of these keys and values, by turns.
func fields(said ...string) []api.Field {
	var all []api.Field
	for pair := range slices.Chunk(said, 2) {
		all = append(all, api.Field{Key: pair[0], Value: pair[1]})
	}
	return all
}
