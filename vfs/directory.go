package vfs

import (
	"maps"
	"slices"
)

// directory is which names stand for which files, by their numbers.
type directory struct {
	sure, seen map[string]int
	waits      []change
}

// change is what an act does to names: one is taken away, or one is put for a file, or both. No name is empty: an empty one is none.
type change struct {
	off, on string
	file    int
}

// apply makes the change in names.
func (c change) apply(names map[string]int) {
	delete(names, c.off)
	if c.on != "" {
		names[c.on] = c.file
	}
}

// wait puts a change behind what waits.
func (d *directory) wait(c change) {
	if d.seen == nil {
		d.sure, d.seen = map[string]int{}, map[string]int{}
	}
	c.apply(d.seen)
	d.waits = append(d.waits, c)
}

// keep makes the first changes of those that wait sure; the others are lost.
func (d *directory) keep(changes int) {
	for _, c := range d.waits[:min(max(changes, 0), len(d.waits))] {
		c.apply(d.sure)
	}
	d.waits = nil
	d.seen = maps.Clone(d.sure)
}

// copy is another directory like it.
func (d *directory) copy() directory {
	return directory{
		sure:  maps.Clone(d.sure),
		seen:  maps.Clone(d.seen),
		waits: slices.Clone(d.waits),
	}
}
