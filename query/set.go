package query

import (
	"math/bits"
	"slices"
)

// Set is a set of small numbers: those of sources, or those of clauses.
type Set uint

// SetOf is the set of these numbers.
func SetOf(numbers ...int) Set {
	var s Set
	for _, n := range numbers {
		s |= 1 << n
	}
	return s
}

// Union is the set of all that is in one of the sets.
func Union(sets ...Set) Set {
	var all Set
	for _, s := range sets {
		all |= s
	}
	return all
}

// firstOf is the set of the numbers below n.
func firstOf(n int) Set { return 1<<n - 1 }

// Has tells whether a number is in the set.
func (s Set) Has(n int) bool { return s>>n&1 == 1 }

// Covers tells whether all that is in the other set is in this one.
func (s Set) Covers(other Set) bool { return other&^s == 0 }

// Meets tells whether something is in both sets.
func (s Set) Meets(other Set) bool { return s&other != 0 }

// Count tells how many numbers are in the set.
func (s Set) Count() int { return bits.OnesCount(uint(s)) }

// List lists the numbers of the set, the least first.
func (s Set) List() []int { return slices.Collect(s.Rising) }

// Rising hands out the numbers of the set, the least first.
func (s Set) Rising(yield func(n int) bool) {
	for n := 0; s>>n != 0; n++ {
		if s.Has(n) && !yield(n) {
			return
		}
	}
}
