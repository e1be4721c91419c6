package verify

import "math/bits"

// due is a set of numbers from which the smallest is taken: a bit for each number, and above each 64 bits one that says whether any of them is set.
// (Looking for it number by number would take too long where ways go back again and again.)
type due [][]uint64

// newDue is an empty set of numbers below so many.
func newDue(many int) due {
	var d due
	for len(d) == 0 || many > 1 {
		many = (many + 63) / 64
		d = append(d, make([]uint64, many))
	}
	return d
}

func (d due) add(n int) {
	for _, level := range d {
		level[n/64] |= 1 << (n % 64)
		n /= 64
	}
}

// take takes the smallest number out; false, if there is none.
func (d due) take() (int, bool) {
	n := 0
	for level := len(d) - 1; level >= 0; level-- {
		word := d[level][n]
		if word == 0 {
			return 0, false
		}
		n = n*64 + bits.TrailingZeros64(word)
	}
	d.drop(n)
	return n, true
}

func (d due) drop(n int) {
	for _, level := range d {
		level[n/64] &^= 1 << (n % 64)
		if level[n/64] != 0 {
			return
		}
		n /= 64
	}
}
