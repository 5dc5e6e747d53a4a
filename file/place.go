package file

import (
	"slices"

	"stanzakeep/api"
	"stanzakeep/vfs"
)

const (
	suffix = ".new"                    // behind a name it makes the aside name
	most   = api.MaxName - len(suffix) // bytes of a name
)

// place is where a file lies: a name on a disk.
type place struct {
	disk *vfs.Disk
	name string
}

// act is something that is to be done on a disk; it answers what refused it.
type act func() error

// do does acts, one behind the other, till one is refused.
func do(acts ...act) error {
	for _, one := range acts {
		if err := one(); err != nil {
			return err
		}
	}
	return nil
}

// aside is the name under which a fresh file is written.
func (p place) aside() string {
	return p.name + suffix
}

// sees tells whether a name is seen on the disk.
func (p place) sees(name string) bool {
	return slices.Contains(p.disk.Names(), name)
}

// clearAside removes the aside file, if there is one.
func (p place) clearAside() error {
	aside := p.aside()
	if !p.sees(aside) {
		return nil
	}
	return do(func() error { return p.disk.Remove(aside) }, p.disk.SyncDir)
}

// createMissing creates the file, if there is none.
func (p place) createMissing() error {
	if p.sees(p.name) {
		return nil
	}
	return do(func() error { return p.disk.Create(p.name) }, p.disk.SyncDir)
}

// put is the act that writes a text behind a file, and syncs it.
func (p place) put(name, text string) act {
	return func() error {
		return do(
			func() error { return p.disk.Write(name, text) },
			func() error { return p.disk.Sync(name) },
		)
	}
}
