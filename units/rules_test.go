package units_test

import (
	"math"
	"slices"
	"testing"

	"cohousing/api"
)

// changed is a plain rule that a function has changed.
func changed(kind int, change func(u *api.Rule)) api.Rule {
	u := plain(kind)
	change(&u)
	return u
}

// expectRule expects an error of a rule at a place, or OK: alone, and behind others with other names.
func expectRule(t *testing.T, u api.Rule, want api.Errno, place int) {
	t.Helper()
	var diags []api.Diag
	if want != api.OK {
		diags = append(diags, api.Diag{At: place, E: want})
	}
	expect(t, bylaws(u), diags...)
	other := plain(api.RuleVote)
	other.Name = "other"
	expect(t, bylaws(other, u), diags...)
	other.Version, other.At = 2, 99
	expect(t, bylaws(u, other), append(diags, api.Diag{At: 99, E: api.ErrState})...)
}

// P11.1: point 1, numbers at and beyond their bounds.
func TestTimes(t *testing.T) {
	for _, kind := range kinds() {
		for _, known := range []int{0, 1, 36523, 36524} {
			expectRule(t, changed(kind, func(u *api.Rule) { u.Known = known }), api.OK, 0)
		}
		for _, known := range []int{-1, 36525, math.MinInt, math.MaxInt, 1 << 32} {
			expectRule(t, changed(kind, func(u *api.Rule) { u.Known = known }), api.ErrRange, atRule)
		}
		for _, version := range []int{0, -1, 1000, 1001, math.MinInt, math.MaxInt, 1<<32 + 1} {
			expectRule(t, changed(kind, func(u *api.Rule) { u.Version = version }), api.ErrRange, atRule)
		}
		for _, version := range []int{2, 3, 998, 999} {
			expectRule(t, changed(kind, func(u *api.Rule) { u.Version = version }), api.ErrState, atRule)
		}
		for _, days := range []api.Span{{From: 0, Until: 1}, {From: 0, Until: 36525}, {From: 36524, Until: 36525}, {From: 36523, Until: 36524}, {From: 31, Until: 60}} {
			expectRule(t, changed(kind, func(u *api.Rule) { u.Days = days }), api.OK, 0)
		}
		for _, days := range []api.Span{{From: 0, Until: 0}, {From: -1, Until: 5}, {From: -1, Until: 0}, {From: 5, Until: 5}, {From: 5, Until: 4}, {From: 0, Until: 36526}, {From: 36525, Until: 36526}, {From: 36525, Until: 36525}, {From: 36524, Until: 36526}, {From: math.MinInt, Until: math.MaxInt}, {From: math.MaxInt, Until: math.MinInt}, {From: 0, Until: -1}, {From: -2, Until: -1}, {From: 1 << 32, Until: 1<<32 + 1}} {
			expectRule(t, changed(kind, func(u *api.Rule) { u.Days = days }), api.ErrRange, atRule)
		}
	}
}

// versions are rules of a name with versions, each one known from a day on, at offsets from 0 on.
func versions(pairs ...[2]int) []api.Rule {
	var all []api.Rule
	for i, pair := range pairs {
		all = append(all, changed(api.RuleCharge, func(u *api.Rule) { u.Version, u.Known, u.At = pair[0], pair[1], i }))
	}
	return all
}

// expectVersions expects an error of each rule, or OK, where the offset of each is its index; also with rules of other names between them.
func expectVersions(t *testing.T, all []api.Rule, want ...api.Errno) {
	t.Helper()
	var diags []api.Diag
	var mixed []api.Rule
	for i, e := range want {
		if e != api.OK {
			diags = append(diags, api.Diag{At: i, E: e})
		}
		other := plain(api.RuleVote)
		other.Name, other.Version, other.Known, other.At = "other", i+1, 7*i, 99
		mixed = append(mixed, other, all[i])
	}
	expect(t, bylaws(all...), diags...)
	expect(t, bylaws(mixed...), diags...)
}

// P11.1: points 2 and 4, versions that are in order, are given twice, or are missing, and days from which they are known.
func TestVersions(t *testing.T) {
	ok, twice, state, out := api.OK, api.ErrTwice, api.ErrState, api.ErrRange
	expectVersions(t, versions([2]int{1, 0}, [2]int{2, 0}, [2]int{3, 5}, [2]int{4, 5}, [2]int{5, 36524}), ok, ok, ok, ok, ok)
	expectVersions(t, versions([2]int{1, 9}, [2]int{2, 8}), ok, state)
	expectVersions(t, versions([2]int{1, 9}, [2]int{2, 9}, [2]int{3, 8}), ok, ok, state)
	expectVersions(t, versions([2]int{1, 9}, [2]int{2, 8}, [2]int{3, 8}, [2]int{4, 9}), ok, state, ok, ok)
	expectVersions(t, versions([2]int{1, 9}, [2]int{2, 5}, [2]int{3, 8}), ok, state, ok)
	expectVersions(t, versions([2]int{1, 0}, [2]int{1, 0}), ok, twice)
	expectVersions(t, versions([2]int{1, 0}, [2]int{2, 0}, [2]int{1, 0}, [2]int{2, 0}, [2]int{3, 0}), ok, ok, twice, twice, ok)
	expectVersions(t, versions([2]int{1, 0}, [2]int{2, 0}, [2]int{1, 0}, [2]int{3, 0}), ok, ok, twice, state)
	expectVersions(t, versions([2]int{2, 0}), state)
	expectVersions(t, versions([2]int{2, 0}, [2]int{3, 0}, [2]int{2, 0}), state, ok, twice)
	expectVersions(t, versions([2]int{2, 0}, [2]int{1, 0}), state, state)
	expectVersions(t, versions([2]int{2, 0}, [2]int{1, 0}, [2]int{2, 0}), state, state, twice)
	expectVersions(t, versions([2]int{1, 0}, [2]int{3, 0}, [2]int{4, 0}, [2]int{2, 0}), ok, state, ok, state)
	expectVersions(t, versions([2]int{1, 0}, [2]int{2, 9}, [2]int{2, 0}, [2]int{3, 5}), ok, ok, twice, ok)
	expectVersions(t, versions([2]int{1, 0}, [2]int{0, 0}, [2]int{1, 0}), ok, out, twice)
	expectVersions(t, versions([2]int{0, 0}, [2]int{1, 0}), out, ok)
	expectVersions(t, versions([2]int{0, 0}, [2]int{0, 0}, [2]int{1, 0}), out, out, ok)
	expectVersions(t, versions([2]int{0, 9}, [2]int{1, 0}), out, state)
	expectVersions(t, versions([2]int{1, 0}, [2]int{2, -1}, [2]int{3, 0}, [2]int{2, 0}), ok, out, ok, twice)
	expectVersions(t, versions([2]int{math.MinInt, 0}, [2]int{1, 0}), out, state)
	expectVersions(t, versions([2]int{math.MaxInt, 0}, [2]int{1, 0}, [2]int{2, 0}), out, state, ok)
	expectVersions(t, versions([2]int{998, 0}, [2]int{999, 0}, [2]int{1000, 0}), state, ok, out)
}

// P11.1: point 2 asks for the name, too.
func TestNamesOfVersions(t *testing.T) {
	one := plain(api.RuleCharge)
	two := one
	two.Name = "xx"
	expect(t, bylaws(one, two))
	two.Version = 2
	expect(t, bylaws(one, two), api.Diag{At: atRule, E: api.ErrState})
}

// P11.1: point 3, a kind that needs an Act or may not have one.
func TestActs(t *testing.T) {
	for _, kind := range kinds() {
		for _, act := range []string{"", "act", "b"} {
			want := api.ErrScope
			if (act == "") == (plain(kind).Act == "") {
				want = api.OK
			}
			expectRule(t, changed(kind, func(u *api.Rule) { u.Act = act }), want, atRule)
		}
	}
	if plain(api.RuleCharge).Act+plain(api.RuleRight).Act+plain(api.RuleRooms).Act != "" {
		t.Error("plain rules of kinds without an Act have one")
	}
}

// P11.1: point 3, a kind or an Act that differs from that of an earlier rule of the name, also of one before the last, and of one with an error.
func TestChangedScopes(t *testing.T) {
	for _, first := range kinds() {
		for _, second := range kinds() {
			for _, act := range []string{"", "act", "other"} {
				one := plain(first)
				two := changed(second, func(u *api.Rule) { u.Version, u.Act, u.At = 2, act, 41 })
				three := changed(first, func(u *api.Rule) { u.Version, u.At = 3, 42 })
				late := changed(first, func(u *api.Rule) { u.Version, u.Known, u.At = 1, 99, 43 })
				if first == second && act == one.Act {
					expect(t, bylaws(one, two, three))
					continue
				}
				scope := api.Diag{At: 41, E: api.ErrScope}
				expect(t, bylaws(one, two), scope)
				expect(t, bylaws(one, two, three), scope, api.Diag{At: 42, E: api.ErrScope})
				expect(t, bylaws(one, two, late), scope, api.Diag{At: 43, E: api.ErrTwice})
				three.Name = "y"
				expect(t, bylaws(one, two, three), scope, api.Diag{At: 42, E: api.ErrState})
			}
		}
	}
	one := plain(api.RuleBan)
	two := changed(api.RuleBan, func(u *api.Rule) { u.Version = 2 })
	last := changed(api.RuleDuty, func(u *api.Rule) { u.Version, u.At = 3, 42 })
	expect(t, bylaws(one, two, last), api.Diag{At: 42, E: api.ErrScope})
	broken := changed(api.RuleDuty, func(u *api.Rule) { u.Version = 0 })
	expect(t, bylaws(broken, one), api.Diag{At: atRule, E: api.ErrRange}, api.Diag{At: atRule, E: api.ErrScope})
	one.Name, two.Name = "y", "y"
	expect(t, bylaws(broken, one, two), api.Diag{At: atRule, E: api.ErrRange})
}

// P11.1: point 5, the unit of When, and its first error.
func TestConditions(t *testing.T) {
	for _, kind := range kinds() {
		when := func(n api.Node) api.Rule { return changed(kind, func(u *api.Rule) { u.When = n }) }
		for _, unit := range basic() {
			for _, n := range ways(unit) {
				if unit.Flag {
					expectRule(t, when(marked(n)), api.OK, 0)
				} else {
					expectRule(t, when(marked(n)), api.ErrUnit, there)
				}
			}
		}
		expectRule(t, when(marked(made(api.Unit{Money: 1, Area: -1}))), api.ErrUnit, there)
		for e, all := range wrongs() {
			for _, n := range all {
				expectRule(t, when(marked(n)), e, there)
				expectRule(t, when(not(not(marked(n)))), e, there)
				expectRule(t, when(node(api.OpAdd, marked(n), yes())), e, there)
			}
		}
	}
}

// given is the unit that a kind of rules gives, and whether it gives one.
func given(kind int) (api.Unit, bool) {
	switch kind {
	case api.RuleCharge, api.RuleRight:
		return money, true
	case api.RuleRooms, api.RuleVote:
		return pure, true
	case api.RuleNotice:
		return length, true
	}
	return pure, false
}

// P11.1: point 6, the unit of Give for each kind, and its first error.
func TestGifts(t *testing.T) {
	for _, kind := range kinds() {
		give := func(n api.Node) api.Rule { return changed(kind, func(u *api.Rule) { u.Give = n }) }
		wanted, isGiven := given(kind)
		for _, unit := range append(basic(), api.Unit{Money: 2}, api.Unit{Money: 1, Days: -1}, api.Unit{Days: -1}, api.Unit{Area: 1, Days: 1}) {
			all := []api.Node{made(unit)}
			if slices.Contains(basic(), unit) {
				all = ways(unit)
			}
			for _, n := range all {
				switch {
				case isGiven && unit == wanted:
					expectRule(t, give(marked(n)), api.OK, 0)
				case isGiven:
					expectRule(t, give(marked(n)), api.ErrUnit, there)
				case n.Op == api.OpNumber && n.N.N == 0 && unit == pure:
					expectRule(t, give(marked(n)), api.OK, 0)
				default:
					expectRule(t, give(marked(n)), api.ErrScope, there)
				}
			}
		}
		for e, all := range wrongs() {
			for _, n := range all {
				expectRule(t, give(marked(n)), e, there)
				expectRule(t, give(node(api.OpSub, marked(n), yes())), e, there)
			}
		}
	}
}

// P11.1: point 6, what a duty and a ban may give: the pure number 0 alone.
func TestNoGifts(t *testing.T) {
	zero := number(0, 1, pure)
	for _, kind := range []int{api.RuleDuty, api.RuleBan} {
		give := func(n api.Node) api.Rule { return changed(kind, func(u *api.Rule) { u.Give = marked(n) }) }
		expectRule(t, give(zero), api.OK, 0)
		for _, n := range []api.Node{number(1, 1, pure), number(1, 2, pure), number(1000000000, 1, pure), number(0, 1, money), number(0, 1, area), number(0, 1, length), yes(), fact("k"), fact("p"), node(api.OpAdd, zero, zero), node(api.OpMul, zero, zero), node(api.OpIf, yes(), zero, zero), node(api.OpMin, zero, zero)} {
			expectRule(t, give(n), api.ErrScope, there)
		}
		expectRule(t, give(number(0, 1, flag)), api.ErrUnit, there)
		expectRule(t, give(fact("unknown")), api.ErrName, there)
		expectRule(t, give(number(1, 2, money)), api.ErrUnit, there)
	}
}

// spoilers are changes to the second version of a rule, one for each point, and the errors that they make.
func spoilers() []struct {
	change func(u *api.Rule)
	want   api.Diag
} {
	return []struct {
		change func(u *api.Rule)
		want   api.Diag
	}{
		{func(u *api.Rule) { u.Days.Until = 0 }, api.Diag{At: atRule, E: api.ErrRange}},
		{func(u *api.Rule) { u.Version = 1 }, api.Diag{At: atRule, E: api.ErrTwice}},
		{func(u *api.Rule) { u.Act = "other" }, api.Diag{At: atRule, E: api.ErrScope}},
		{func(u *api.Rule) { u.Known = 3 }, api.Diag{At: atRule, E: api.ErrState}},
		{func(u *api.Rule) { u.When.Kids[1] = fact("unknown") }, api.Diag{At: 11, E: api.ErrName}},
		{func(u *api.Rule) { u.When.Op = api.OpAdd; u.When.Kids[0] = u.When.Kids[1] }, api.Diag{At: atWhen, E: api.ErrUnit}},
		{func(u *api.Rule) { u.Give.Kids[1] = marked(fact("unknown")) }, api.Diag{At: there, E: api.ErrName}},
		{func(u *api.Rule) { u.Give.Op = api.OpEq; u.Give.Kids[0] = u.Give.Kids[1] }, api.Diag{At: atGive, E: api.ErrUnit}},
	}
}

// P11.1: rules to which several of the six points apply: the first one counts, and each rule has one error at most.
func TestSeveralErrors(t *testing.T) {
	for _, kind := range []int{api.RuleCharge, api.RuleRight, api.RuleNotice, api.RuleRooms, api.RuleVote, api.RuleDuty, api.RuleBan} {
		one := changed(kind, func(u *api.Rule) { u.Known = 5 })
		for set := range 1 << len(spoilers()) {
			two := changed(kind, func(u *api.Rule) {
				u.Version, u.Known = 2, 5
				u.When = node(api.OpLt, fact("k"), number(3, 1, pure))
				u.Give = node(api.OpMin, u.Give, u.Give)
				u.When.At, u.Give.At = atWhen, atGive
			})
			var want []api.Diag
			for i, s := range spoilers() {
				if set&(1<<i) != 0 {
					s.change(&two)
					want = append(want, s.want)
				}
			}
			if kind == api.RuleDuty || kind == api.RuleBan {
				want = append(slices.DeleteFunc(want, func(d api.Diag) bool { return d.At == atGive }), api.Diag{At: atGive, E: api.ErrScope})
			}
			expect(t, bylaws(one, two), want[:min(1, len(want))]...)
			three := changed(kind, func(u *api.Rule) { u.Name, u.Known, u.At = "y", -1, 43 })
			expect(t, bylaws(three, one, two), append([]api.Diag{{At: 43, E: api.ErrRange}}, want[:min(1, len(want))]...)...)
		}
	}
}

// P11.1: the errors of rules in their order, 20 at most, with rules without errors between them.
func TestManyErrors(t *testing.T) {
	for _, count := range []int{1, 2, 19, 20, 21, 22, 40, 100} {
		for _, gap := range []int{1, 2, 3} {
			var rules []api.Rule
			var want []api.Diag
			for i := range count {
				u := changed(api.RuleCharge, func(u *api.Rule) { u.Name, u.At = "x"+string(rune('a'+i%26))+string(rune('a'+i/26)), 1000-i })
				if i%gap == 0 {
					u.Known = -1
					want = append(want, api.Diag{At: 1000 - i, E: api.ErrRange})
				}
				rules = append(rules, u)
			}
			expect(t, bylaws(rules...), want[:min(20, len(want))]...)
		}
	}
	var rules []api.Rule
	var want []api.Diag
	for i := range 100 {
		u := changed(api.RuleBan, func(u *api.Rule) { u.Version, u.At, u.When, u.Give = i+1, i, number(1, 1, pure), yes() })
		u.When.At, u.Give.At = 200+i, 300+i
		if i%2 == 1 {
			u.When = yes()
			want = append(want, api.Diag{At: 300 + i, E: api.ErrScope})
		} else {
			want = append(want, api.Diag{At: 200 + i, E: api.ErrUnit})
		}
		rules = append(rules, u)
	}
	expect(t, bylaws(rules...), want[:20]...)
}
