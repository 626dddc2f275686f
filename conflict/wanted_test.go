package conflict_test

import (
	"slices"

	"cohousing/api"
	"cohousing/evaluate"
	"cohousing/units"
)

// households are the values of all households of right declarations, in lexicographic order.
func households(l []api.Decl) [][]int {
	all := [][]int{{}}
	for _, d := range l {
		var more [][]int
		for _, values := range all {
			for value := d.Lo; value <= d.Hi; value++ {
				more = append(more, append(slices.Clone(values), value))
			}
		}
		all = more
	}
	return all
}

// accepts reports whether a rule accepts a household.
func accepts(l []api.Decl, r api.Rule, values []int) bool {
	value, e := evaluate.Value(l, r.When, values)
	return e == api.OK && value == api.Rat{N: 1, D: 1}
}

// accepted says for each household whether a rule accepts it.
func accepted(c api.Codex, i int) []bool {
	var is []bool
	for _, values := range households(c.Decls) {
		is = append(is, accepts(c.Decls, c.Rules[i], values))
	}
	return is
}

// force says for each day whether a rule of valid by-laws is in force, as known on a day.
func force(c api.Codex, i, known int) []bool {
	is := make([]bool, 36525)
	for j, r := range c.Rules {
		if r.Name != c.Rules[i].Name || r.Known > known || j < i {
			continue
		}
		// The versions of a rule are in order, so that later ones take away what this one has.
		for day := r.Days.From; day < r.Days.Until; day++ {
			is[day] = j == i
		}
	}
	return is
}

// firstBoth is the first index at which both are true, or -1.
func firstBoth(a, b []bool) int {
	for i := range a {
		if a[i] && b[i] {
			return i
		}
	}
	return -1
}

// wantedClashes is what Clashes returns.
func wantedClashes(c api.Codex, known int) ([]api.Clash, api.Errno) {
	if len(units.Check(c)) > 0 || known < 0 || known > 36524 {
		return nil, api.ErrArg
	}
	inForce, whom := make([][]bool, len(c.Rules)), make([][]bool, len(c.Rules))
	for i, r := range c.Rules {
		if r.Kind == api.RuleDuty || r.Kind == api.RuleBan {
			inForce[i], whom[i] = force(c, i, known), accepted(c, i)
		}
	}
	var all []api.Clash
	for i, duty := range c.Rules {
		for j, ban := range c.Rules {
			if duty.Kind != api.RuleDuty || ban.Kind != api.RuleBan || duty.Act != ban.Act {
				continue
			}
			day, first := firstBoth(inForce[i], inForce[j]), firstBoth(whom[i], whom[j])
			if day >= 0 && first >= 0 {
				all = append(all, api.Clash{One: i, Two: j, Day: day, Case: households(c.Decls)[first]})
			}
		}
	}
	return all, api.OK
}

// wantedNever is what Never returns.
func wantedNever(c api.Codex) ([]int, api.Errno) {
	if len(units.Check(c)) > 0 {
		return nil, api.ErrArg
	}
	var all []int
	for i := range c.Rules {
		if !slices.Contains(accepted(c, i), true) {
			all = append(all, i)
		}
	}
	return all, api.OK
}
