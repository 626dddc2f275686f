package amend

import (
	"cohousing/api"
	"cohousing/evaluate"
)

// formula returns a number for each household, or an error.
type formula func(values []int) (api.Rat, api.Errno)

// nothing returns the number 0.
func nothing() api.Rat { return api.Rat{N: 0, D: 1} }

// isGiving reports whether a rule is one that gives money, or takes it.
func isGiving(r api.Rule) bool { return r.Kind == api.RuleCharge || r.Kind == api.RuleRight }

// gift returns what a charge or right of valid by-laws gives, which is below 0 if it takes.
func gift(l []api.Decl, r api.Rule) formula {
	when, give := remembered(l, r.When), remembered(l, r.Give)
	return func(values []int) (api.Rat, api.Errno) {
		holds, e := when(values)
		if e != api.OK || holds.N != 1 {
			return nothing(), e
		}
		n, e := give(values)
		if r.Kind == api.RuleCharge {
			n.N = -n.N
		}
		return n, e
	}
}

// remembered returns the value of an expression that has a unit. It is computed once for all households that do not differ in facts that the expression names, because there can be thousands of households, and most expressions name few facts.
func remembered(l []api.Decl, n api.Node) formula {
	facts := map[string]bool{}
	collect(n, facts)
	known := map[int]api.Rat{}
	return func(values []int) (api.Rat, api.Errno) {
		key := number(l, facts, values)
		if value, is := known[key]; is {
			return value, api.OK
		}
		value, e := evaluate.Value(l, n, values)
		if e == api.OK {
			known[key] = value
		}
		return value, e
	}
}

// collect puts the facts that an expression names into a set.
func collect(n api.Node, facts map[string]bool) {
	if n.Op == api.OpFact {
		facts[n.Name] = true
	}
	for _, kid := range n.Kids {
		collect(kid, facts)
	}
}

// number returns a number that households share exactly if they do not differ in some facts.
func number(l []api.Decl, facts map[string]bool, values []int) int {
	n := 0
	for i, d := range l {
		if facts[d.Name] {
			n = n*(d.Hi-d.Lo+1) + values[i] - d.Lo
		}
	}
	return n
}
