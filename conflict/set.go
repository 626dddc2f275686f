package conflict

import (
	"math/bits"

	"cohousing/api"
)

// set is a set of households by their numbers, each of which is a bit.
type set [api.MaxCases / bits.UintSize]uint

// add puts a household into a set.
func (s *set) add(number int) { s[number/bits.UintSize] |= 1 << (number % bits.UintSize) }

// has reports whether a household is in a set.
func (s *set) has(number int) bool { return s[number/bits.UintSize]>>(number%bits.UintSize)&1 == 1 }

// and returns the households that are in both sets.
func (s set) and(other set) set {
	for i := range s {
		s[i] &= other[i]
	}
	return s
}

// count returns how many households are in a set.
func (s set) count() int {
	count := 0
	for _, word := range s {
		count += bits.OnesCount(word)
	}
	return count
}

// first returns the least number in a set that is not empty.
func (s set) first() int {
	i := 0
	for s[i] == 0 {
		i++
	}
	return i*bits.UintSize + bits.TrailingZeros(s[i])
}
