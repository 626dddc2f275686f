package codex

import (
	"iter"
	"maps"
	"slices"

	"cohousing/api"
)

// isDay reports whether there is a day with a number.
func isDay(day int) bool { return 0 <= day && day <= api.MaxDay }

// holding are the rules that are known on a day and have a day, with their indexes, in order.
func holding(rules []api.Rule, day, known int) iter.Seq2[int, api.Rule] {
	return func(yield func(int, api.Rule) bool) {
		for i, r := range rules {
			if r.Known <= known && r.Days.From <= day && day < r.Days.Until && !yield(i, r) {
				return
			}
		}
	}
}

// inForce are the indexes of the rules of valid by-laws that are in force on a day, as known on another day.
func inForce(rules []api.Rule, day, known int) []int {
	// Valid by-laws have the versions of a rule in order, so that the last one that holds is the greatest.
	last := map[string]int{}
	for i, r := range holding(rules, day, known) {
		last[r.Name] = i
	}
	return slices.Sorted(maps.Values(last))
}

// borders are the days with a day before them on which some rule begins or has just ended, in order: the rules in force change on no others.
func borders(rules []api.Rule) []int {
	var days []int
	for _, r := range rules {
		for _, day := range []int{r.Days.From, r.Days.Until} {
			if day > 0 && isDay(day) {
				days = append(days, day)
			}
		}
	}
	slices.Sort(days)
	return slices.Compact(days)
}
