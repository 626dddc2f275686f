package conflict

import (
	"cmp"
	"slices"

	"cohousing/api"
	"cohousing/codex"
)

// pair are the indexes of a duty and a ban.
type pair struct{ duty, ban int }

// opposite is a duty and a ban about one act, and the first day on which both are in force.
type opposite struct {
	pair
	day int
}

// opposites are all of them in valid by-laws, as known on a day, in order; changes are the days on which other rules are in force than before.
func opposites(c api.Codex, known int, changes []int) []opposite {
	var all []opposite
	found := map[pair]bool{}
	// From one change to the next one the same rules are in force, so no pair is new on the days between.
	for _, day := range slices.Concat([]int{0}, changes) {
		force, _ := codex.Force(c, day, known)
		for _, p := range pairs(c.Rules, force) {
			if !found[p] {
				found[p] = true
				all = append(all, opposite{p, day})
			}
		}
	}
	slices.SortFunc(all, func(a, b opposite) int {
		return cmp.Or(cmp.Compare(a.duty, b.duty), cmp.Compare(a.ban, b.ban))
	})
	return all
}

// pairs are the pairs of a duty and a ban about one act among some rules.
func pairs(rules []api.Rule, indexes []int) []pair {
	var all []pair
	for _, i := range indexes {
		for _, j := range indexes {
			if rules[i].Kind == api.RuleDuty && rules[j].Kind == api.RuleBan && rules[i].Act == rules[j].Act {
				all = append(all, pair{i, j})
			}
		}
	}
	return all
}
