package verify

import "math/bits"

// slots is a set of slots, as a number. At level 0 it has a bit for each of 64 slots; at each level above, of twice as many, it is the number of a pair of sets of the level below (0: of two empty ones).
// A pair has one number alone: so two sets are alike just if their numbers are, and a prog of many slots and long code needs little memory.
type slots uint64

type pair struct{ low, high slots }

// sets knows the pairs that a prog's sets are made of.
type sets struct {
	levels  int
	pairs   []pair
	numbers map[pair]slots
}

// begin forgets all sets; those from now on are of so many slots.
func (x *sets) begin(many int) {
	// One slot more than there are has room too: so first need not tell a full set from others.
	x.levels = bits.Len(uint(many) / 64)
	x.pairs = append(x.pairs[:0], pair{})
	if x.numbers == nil {
		x.numbers = map[pair]slots{}
	}
	clear(x.numbers)
}

// first is the set of the first so many slots.
func (x *sets) first(many int) slots {
	full, some := ^slots(0), slots(1)<<(many%64)-1
	for level := 1; level <= x.levels; level++ {
		if isHigh(many, level) {
			some = x.number(pair{full, some})
		} else {
			some = x.number(pair{some, 0})
		}
		full = x.number(pair{full, full})
	}
	return some
}

func (x *sets) has(s slots, slot int) bool {
	for level := x.levels; level > 0; level-- {
		half := x.pairs[s]
		if isHigh(slot, level) {
			s = half.high
		} else {
			s = half.low
		}
	}
	return s&bitOf(slot) != 0
}

func (x *sets) with(s slots, slot int) slots {
	return x.changed(s, x.levels, slot, bitOf(slot))
}

func (x *sets) without(s slots, slot int) slots {
	return x.changed(s, x.levels, slot, 0)
}

// changed is a set of some level in which a slot's bit is another one.
func (x *sets) changed(s slots, level, slot int, to slots) slots {
	if level == 0 {
		return s&^bitOf(slot) | to
	}
	half := x.pairs[s]
	if isHigh(slot, level) {
		half.high = x.changed(half.high, level-1, slot, to)
	} else {
		half.low = x.changed(half.low, level-1, slot, to)
	}
	return x.number(half)
}

func (x *sets) number(p pair) slots {
	if p == (pair{}) {
		return 0
	}
	n, known := x.numbers[p]
	if !known {
		n = slots(len(x.pairs))
		x.pairs = append(x.pairs, p)
		x.numbers[p] = n
	}
	return n
}

func bitOf(slot int) slots { return 1 << (slot % 64) }

// isHigh tells whether a slot stands in the higher half of the sets of a level.
func isHigh(slot, level int) bool { return slot/64>>(level-1)&1 == 1 }
