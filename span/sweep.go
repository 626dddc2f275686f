package span

import (
	"cmp"
	"slices"

	"cohousing/api"
)

// The lists that are swept, by their indexes.
const (
	listA = iota
	listB
	lists
)

// end is a day from which more stretches of a list have the days, or (if more is negative) fewer.
type end struct{ day, list, more int }

// sweep returns the set with the days that are kept, given whether a stretch of each list has them; keep(false, false) must be false.
func sweep(a, b []api.Span, keep func(inA, inB bool) bool) ([]api.Span, api.Errno) {
	var set []api.Span
	var depths [lists]int
	from, inside := 0, false
	ends := sortedEnds(a, b)
	for i, e := range ends {
		depths[e.list] += e.more
		// Stretches that touch, or that swap their places, leave no gap: only the last end of a day says what is from then on.
		if i+1 < len(ends) && ends[i+1].day == e.day {
			continue
		}
		was := inside
		inside = keep(depths[listA] > 0, depths[listB] > 0)
		if inside && !was {
			from = e.day
		}
		if was && !inside {
			set = append(set, api.Span{From: from, Until: e.day})
		}
	}
	if len(set) > api.MaxSpans {
		return nil, api.ErrLimit
	}
	return set, api.OK
}

// sortedEnds returns the ends of the stretches of two lists by their days.
func sortedEnds(a, b []api.Span) []end {
	ends := make([]end, 0, 2*(len(a)+len(b)))
	for list, l := range [lists][]api.Span{a, b} {
		for _, s := range l {
			ends = append(ends, end{s.From, list, 1}, end{s.Until, list, -1})
		}
	}
	slices.SortFunc(ends, by(func(e end) int { return e.day }))
	return ends
}

// by makes a comparison of values by a key.
func by[T any, K cmp.Ordered](key func(T) K) func(x, y T) int {
	return func(x, y T) int { return cmp.Compare(key(x), key(y)) }
}
