package vfs

// file is the bytes that are sure, and the writes and cuts that wait.
type file struct {
	sure  string
	waits []Act
	size  int // of what is seen, so that what is free needs no look at the bytes
}

// wait puts a write or a cut behind what waits.
func (f *file) wait(act Act) {
	f.waits = append(f.waits, act)
	if act.Kind == Cutted {
		f.size = act.At
		return
	}
	f.size += len(act.Bytes)
}

// after is the bytes that are sure, and then the first units of what waits.
func (f *file) after(units int) string {
	bytes := []byte(f.sure)
	for _, act := range f.waits {
		if units <= 0 {
			break
		}
		if act.Kind == Cutted {
			bytes = bytes[:act.At]
			units--
			continue
		}
		written := act.Bytes[:min(units, len(act.Bytes))]
		bytes = append(bytes, written...)
		units -= len(written)
	}
	return string(bytes)
}

// keep makes the first units of what waits sure; the others are lost.
func (f *file) keep(units int) {
	f.sure = f.after(units)
	f.waits = nil
	f.size = len(f.sure)
}
