package codex_test

import (
	"reflect"
	"slices"

	"cohousing/api"
	"cohousing/units"
)

// isDay is the definition of a day.
func isDay(day int) bool { return day >= 0 && day < 36525 }

// holds reports whether a rule is known and has a day.
func holds(r api.Rule, day, known int) bool {
	return r.Known <= known && r.Days.From <= day && day < r.Days.Until
}

// isInForce is the definition of a rule that is in force.
func isInForce(all []api.Rule, r api.Rule, day, known int) bool {
	return holds(r, day, known) && !slices.ContainsFunc(all, func(other api.Rule) bool {
		return other.Name == r.Name && other.Version > r.Version && holds(other, day, known)
	})
}

// wantedForce is what Force returns.
func wantedForce(c api.Codex, day, known int) ([]int, api.Errno) {
	if len(units.Check(c)) > 0 {
		return nil, api.ErrArg
	}
	if !isDay(day) || !isDay(known) {
		return nil, api.ErrRange
	}
	var all []int
	for i, r := range c.Rules {
		if isInForce(c.Rules, r, day, known) {
			all = append(all, i)
		}
	}
	return all, api.OK
}

// wantedChanges is what Changes returns: each rule that is known is painted over the earlier versions of it, on all of its days, and the days are those on which the paintings of some name have another colour than on the day before.
func wantedChanges(c api.Codex, known int) ([]int, api.Errno) {
	if len(units.Check(c)) > 0 {
		return nil, api.ErrArg
	}
	if !isDay(known) {
		return nil, api.ErrRange
	}
	paintings := map[string][]int{}
	for _, r := range c.Rules {
		if r.Known > known {
			continue
		}
		if paintings[r.Name] == nil {
			paintings[r.Name] = make([]int, 36525)
		}
		for day := r.Days.From; day < r.Days.Until; day++ {
			paintings[r.Name][day] = r.Version
		}
	}
	isChange := make([]bool, 36525)
	for _, painting := range paintings {
		for day := 1; day < 36525; day++ {
			isChange[day] = isChange[day] || painting[day] != painting[day-1]
		}
	}
	var days []int
	for day, is := range isChange {
		if is {
			days = append(days, day)
		}
	}
	return days, api.OK
}

// wantedAmend is what Amend returns.
func wantedAmend(c api.Codex, r api.Rule) (api.Codex, api.Errno) {
	type edition struct {
		name    string
		version int
	}
	editions := map[edition]bool{}
	latest := map[string]api.Rule{}
	for _, other := range c.Rules {
		editions[edition{other.Name, other.Version}] = true
		latest[other.Name] = other
	}
	last, isThere := latest[r.Name]
	amended := api.Codex{Decls: c.Decls, Rules: append(slices.Clone(c.Rules), r)}
	switch {
	case len(units.Check(c)) > 0:
		return api.Codex{}, api.ErrArg
	case len(c.Rules) >= 100:
		return api.Codex{}, api.ErrLimit
	case editions[edition{r.Name, r.Version}]:
		return api.Codex{}, api.ErrTwice
	case isThere && (r.Version-1 != last.Version || r.Known < last.Known), !isThere && r.Version != 1:
		return api.Codex{}, api.ErrState
	}
	if all := units.Check(amended); len(all) > 0 {
		return api.Codex{}, all[0].E
	}
	return amended, api.OK
}

// copiedNode is an expression that shares no memory with another one; no operands and an empty list of them are the same.
func copiedNode(n api.Node) api.Node {
	kids := n.Kids
	n.Kids = nil
	for _, kid := range kids {
		n.Kids = append(n.Kids, copiedNode(kid))
	}
	return n
}

// copied are by-laws that share no memory with others.
func copied(c api.Codex) api.Codex {
	var same api.Codex
	same.Decls = append(same.Decls, c.Decls...)
	for _, r := range c.Rules {
		r.When, r.Give = copiedNode(r.When), copiedNode(r.Give)
		same.Rules = append(same.Rules, r)
	}
	return same
}

// isSame reports whether by-laws, none of which contain themselves, are equal.
func isSame(a, b api.Codex) bool { return reflect.DeepEqual(copied(a), copied(b)) }
