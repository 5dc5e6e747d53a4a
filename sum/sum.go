// Package sum is layer 1: check sums of records, as figures. See shared/doc/01-sum.md.
package sum

import "strings"

const (
	polynomial = 0x04c11db7
	digits     = "0123456789abcdef"
	width      = 8 // figures of a sum
)

// Sum is the check sum of parts.
func Sum(parts ...string) uint32 {
	left := afterHalves()
	register := ^uint32(0)
	for _, part := range parts {
		register = feed(register, left, part)
	}
	return ^register
}

// Add goes on with a check sum.
func Add(sum uint32, text string) uint32 {
	// A sum is the register with its bits turned: turned back, it goes on where it was.
	return ^feed(^sum, afterHalves(), text)
}

// Figures is a check sum's figures.
func Figures(sum uint32) string {
	var figures [width]byte
	for i := range figures {
		figures[i] = digits[sum>>28]
		sum <<= 4
	}
	return string(figures[:])
}

// Take is the check sum of figures.
func Take(figures string) (uint32, bool) {
	if len(figures) != width {
		return 0, false
	}
	sum := uint32(0)
	for i := range len(figures) {
		digit := strings.IndexByte(digits, figures[i])
		if digit < 0 {
			return 0, false
		}
		sum = sum<<4 | uint32(digit)
	}
	return sum, true
}

// Is tells whether figures are those of parts.
func Is(figures string, parts ...string) bool {
	return figures == Figures(Sum(parts...))
}

// feed puts a text's bytes into the register, half a byte at a time.
func feed(register uint32, left [16]uint32, text string) uint32 {
	for i := range len(text) {
		register ^= uint32(text[i]) << 24
		register = register<<4 ^ left[register>>28]
		register = register<<4 ^ left[register>>28]
	}
	return register
}

// afterHalves tells for each half byte what becomes of a register that holds it alone, in its highest bits, once these went out. Sixteen entries are soon made, so that no table need be kept.
func afterHalves() [16]uint32 {
	var left [16]uint32
	for half := range left {
		register := uint32(half) << 28
		for range 4 {
			out := register >> 31
			register <<= 1
			if out == 1 {
				register ^= polynomial
			}
		}
		left[half] = register
	}
	return left
}
