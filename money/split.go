package money

import (
	"cmp"
	"slices"

	"cohousing/api"
)

// maxWeights is how many parts an amount is divided into at most.
const maxWeights = 64

// weigh returns the sum of weights, or 0 if nothing can be divided by them.
func weigh(weights []int) int {
	if len(weights) > maxWeights {
		return 0
	}
	total := 0
	for _, w := range weights {
		if w < 0 || w > api.MaxWeight {
			return 0
		}
		total += w
	}
	return total
}

// divide returns the parts of an amount for weights with a total above 0.
func divide(cents int, weights []int, total int) []int {
	parts, rests := make([]int, len(weights)), make([]int, len(weights))
	missing := cents
	for i := range len(weights) {
		exact := cents * weights[i]
		parts[i], rests[i] = exact/total, abs(exact%total)
		missing -= parts[i]
	}
	// The remainders are each below the total and add up to the missing cents times the total, so no fewer parts have one than cents are missing.
	for _, i := range largestFirst(rests)[:abs(missing)] {
		parts[i] += sign(cents)
	}
	return parts
}

// largestFirst returns the indexes of remainders from the largest one on; the sort is stable, so that of equal ones the smaller index comes first.
func largestFirst(rests []int) []int {
	order := make([]int, len(rests))
	for i := range order {
		order[i] = i
	}
	slices.SortStableFunc(order, func(a, b int) int { return cmp.Compare(rests[b], rests[a]) })
	return order
}
