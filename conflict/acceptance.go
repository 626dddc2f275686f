package conflict

import "cohousing/api"

// acceptance returns the function that says which households a rule of valid by-laws accepts. It computes each set once.
func acceptance(c api.Codex) func(rule int) set {
	sets := map[int]set{}
	return func(rule int) set {
		accepted, is := sets[rule]
		if !is {
			accepted = acceptedBy(c.Decls, c.Rules[rule])
			sets[rule] = accepted
		}
		return accepted
	}
}

// acceptedBy returns the households that a rule accepts.
func acceptedBy(l []api.Decl, r api.Rule) set {
	named := map[string]bool{}
	name(r.When, named)
	var accepted set
	for number, values := range households(l) {
		// Facts that are not named do not matter, so the first household with the same values of the others stands for all of them.
		first := firstLike(l, values, named)
		is := accepted.has(first)
		if first == number {
			is = accepts(l, r, values)
		}
		if is {
			accepted.add(number)
		}
	}
	return accepted
}

// name collects the facts that an expression names.
func name(n api.Node, facts map[string]bool) {
	if n.Op == api.OpFact {
		facts[n.Name] = true
	}
	for _, kid := range n.Kids {
		name(kid, facts)
	}
}

// firstLike returns the number of the first household with the same values of some facts.
func firstLike(l []api.Decl, values []int, facts map[string]bool) int {
	number := 0
	for i, d := range l {
		number *= d.Hi - d.Lo + 1
		if facts[d.Name] {
			number += values[i] - d.Lo
		}
	}
	return number
}
