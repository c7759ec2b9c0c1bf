// Package bits is layer 1: see shared/doc/01-bits.md.
package bits

// width is how many bits a word has.
const width = 64

// Has tells whether the bit i of w is set.
func Has(w uint64, i int) bool { return w&only(i) != 0 }

// Set answers w with the bit i set.
func Set(w uint64, i int) uint64 { return w | only(i) }

// Clear answers w with the bit i not set.
func Clear(w uint64, i int) uint64 { return w &^ only(i) }

// Mask answers the word whose bits below n are set, and no others.
func Mask(n int) uint64 {
	m := uint64(0)
	for i := range below(n) {
		m = Set(m, i)
	}
	return m
}

// First answers the least i below n whose bit isn't set in w, and whether there is one.
func First(w uint64, n int) (int, bool) {
	for i := range below(n) {
		if !Has(w, i) {
			return i, true
		}
	}
	return 0, false
}

// Count answers how many bits below n are set in w.
func Count(w uint64, n int) int {
	many := 0
	for i := range below(n) {
		if Has(w, i) {
			many++
		}
	}
	return many
}

// only answers the word with the bit i alone. Go panics at a shift by a negative
// number, so i is made unsigned: a place that no word has is then shifted out, and
// names no bit.
func only(i int) uint64 { return uint64(1) << uint(i) }

// below bounds n by a word's width, so that a range over it ends soon whatever n is.
// A negative n may stay: a range over it has no turns.
func below(n int) int { return min(n, width) }
