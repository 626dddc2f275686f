package units

import (
	"slices"

	"cohousing/api"
)

// maxVersion is the greatest version of a rule.
const maxVersion = 999

// ruleErrors returns what is wrong with the rules of by-laws that are well-formed, and whose declarations are right.
func ruleErrors(c api.Codex) []api.Diag {
	var diags []api.Diag
	s := newScope(c.Decls)
	earlier := map[string][]api.Rule{}
	for _, u := range c.Rules {
		if d := errorOf(func() { s.checkRule(u, earlier[u.Name]) }); d.E != api.OK {
			diags = append(diags, d)
		}
		earlier[u.Name] = append(earlier[u.Name], u)
	}
	return diags
}

// checkRule gives up with the first error of a rule, before which others have its name.
func (s scope) checkRule(u api.Rule, earlier []api.Rule) {
	need(isTimed(u), api.ErrRange, u.At)
	need(!isTwice(u, earlier), api.ErrTwice, u.At)
	need(isAbout(u, earlier), api.ErrScope, u.At)
	need(isNext(u, earlier), api.ErrState, u.At)
	need(s.unit(u.When).Flag, api.ErrUnit, u.When.At)
	s.checkGive(u)
}

// isTimed reports whether the version and the days of a rule are within their bounds.
func isTimed(u api.Rule) bool {
	days := u.Days
	return 1 <= u.Version && u.Version <= maxVersion &&
		0 <= days.From && days.From < days.Until && days.Until <= api.MaxDay+1 &&
		0 <= u.Known && u.Known <= api.MaxDay
}

// isTwice reports whether there is a rule with its version already.
func isTwice(u api.Rule, earlier []api.Rule) bool {
	return slices.ContainsFunc(earlier, func(v api.Rule) bool { return v.Version == u.Version })
}

// isAbout reports whether a rule is about something exactly if its kind is, and of the same kind and about the same as the earlier ones.
func isAbout(u api.Rule, earlier []api.Rule) bool {
	isOther := func(v api.Rule) bool { return v.Kind != u.Kind || v.Act != u.Act }
	return hasAct(u.Kind) == (u.Act != "") && !slices.ContainsFunc(earlier, isOther)
}

// hasAct reports whether rules of a kind are about something.
func hasAct(kind int) bool {
	switch kind {
	case api.RuleDuty, api.RuleBan, api.RuleVote, api.RuleNotice:
		return true
	}
	return false
}

// isNext reports whether a rule is the version that comes next, and becomes known in its turn.
func isNext(u api.Rule, earlier []api.Rule) bool {
	if len(earlier) == 0 {
		return u.Version == 1
	}
	last := earlier[len(earlier)-1]
	return last.Version == u.Version-1 && last.Known <= u.Known
}

// checkGive gives up with the first error of what a rule gives.
func (s scope) checkGive(u api.Rule) {
	unit := s.unit(u.Give)
	switch u.Kind {
	case api.RuleCharge, api.RuleRight:
		need(unit == api.Unit{Money: 1}, api.ErrUnit, u.Give.At)
	case api.RuleRooms, api.RuleVote:
		need(unit == api.Unit{}, api.ErrUnit, u.Give.At)
	case api.RuleNotice:
		need(unit == api.Unit{Days: 1}, api.ErrUnit, u.Give.At)
	default:
		need(isNothing(u.Give), api.ErrScope, u.Give.At)
	}
}

// isNothing reports whether an expression is the pure number 0, which stands for a rule that gives nothing.
func isNothing(n api.Node) bool {
	return n.Op == api.OpNumber && n.N.N == 0 && n.Unit == (api.Unit{})
}
