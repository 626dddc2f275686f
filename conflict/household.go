package conflict

import (
	"iter"

	"cohousing/api"
	"cohousing/evaluate"
)

// household returns the values of a household by its number in lexicographic order.
func household(l []api.Decl, number int) []int {
	values := make([]int, len(l))
	for i := len(l) - 1; i >= 0; i-- {
		size := l[i].Hi - l[i].Lo + 1
		values[i] = l[i].Lo + number%size
		number /= size
	}
	return values
}

// households are the values of all households for right declarations, with their numbers, in lexicographic order.
func households(l []api.Decl) iter.Seq2[int, []int] {
	count := 1
	for _, d := range l {
		count *= d.Hi - d.Lo + 1
	}
	return func(yield func(int, []int) bool) {
		for number := range count {
			if !yield(number, household(l, number)) {
				return
			}
		}
	}
}

// accepts reports whether a rule accepts a household.
func accepts(l []api.Decl, r api.Rule, values []int) bool {
	value, e := evaluate.Value(l, r.When, values)
	return e == api.OK && value == api.Rat{N: 1, D: 1}
}

// acceptsSome reports whether a rule accepts at least one household.
func acceptsSome(l []api.Decl, r api.Rule) bool {
	for _, values := range households(l) {
		if accepts(l, r, values) {
			return true
		}
	}
	return false
}
