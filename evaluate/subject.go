package evaluate

import (
	"cohousing/api"
	"cohousing/calendar"
	"cohousing/codex"
	"cohousing/money"
)

// subject is a household, and the rules to which it is subject on a day: all of them, and the indexes of those that are in force.
type subject struct {
	home  *household
	rules []api.Rule
	force []int
}

// newSubject returns a household on a day, as known on another day; it gives up if there is none.
func newSubject(c api.Codex, day, known int, values []int) subject {
	force := must(codex.Force(c, day, known))
	return subject{newHousehold(c.Decls, values), c.Rules, force}
}

// holding returns the indexes of the rules of a kind that hold; it gives up with the first error of one of them.
func (s subject) holding(kind int) []int {
	var holding []int
	for _, i := range s.force {
		if r := s.rules[i]; r.Kind == kind && s.home.holds(r.When) {
			holding = append(holding, i)
		}
	}
	return holding
}

// bill is what a household owes for a month, and the indexes of the rules from which this comes.
type bill struct {
	cents int
	rules []int
}

// newBill returns the bill of a household as known on a day; it gives up with the first error on the way.
func newBill(c api.Codex, month, known int, values []int) bill {
	s := newSubject(c, must(calendar.Days(month)).From, known, values)
	var rules, amounts []int
	for _, i := range s.force {
		r := s.rules[i]
		if side := sign(r.Kind); side != 0 && s.home.holds(r.When) {
			rules = append(rules, i)
			amounts = append(amounts, side*must(money.Scale(1, s.home.value(r.Give))))
		}
	}
	return bill{must(money.Add(amounts...)), rules}
}

// sign returns 1 if what rules of a kind give is added to what a household owes, -1 if it is subtracted, and 0 if it is no money.
func sign(kind int) int {
	switch kind {
	case api.RuleCharge:
		return 1
	case api.RuleRight:
		return -1
	}
	return 0
}
