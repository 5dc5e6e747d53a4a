package vfs

// power is what each act needs; when it is armed, it goes behind so many units.
type power struct {
	units int // that were done
	armed bool
	left  int // till it goes
	gone  bool
}

// spend does so many units, or as many as there is power for, and answers how many were done.
func (p *power) spend(units int) int {
	if p.armed {
		// It goes only when a unit is to be done for which nothing is left, not with the last one that is done.
		if units > p.left {
			units, p.gone = p.left, true
		}
		p.left -= units
	}
	p.units += units
	return units
}
