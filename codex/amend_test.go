package codex_test

import (
	"math"
	"slices"
	"strconv"
	"testing"

	"cohousing/api"
	"cohousing/codex"
)

// expectAmended expects that a rule comes behind the others, and that nothing else changes.
func expectAmended(t *testing.T, c api.Codex, r api.Rule) {
	t.Helper()
	got, e := codex.Amend(c, r)
	want := api.Codex{Decls: c.Decls, Rules: append(slices.Clone(c.Rules), r)}
	if e != api.OK || !isSame(got, want) {
		t.Errorf("%s behind%s: got%s, %v", brief([]api.Rule{r}), brief(c.Rules), brief(got.Rules), e)
	}
}

// expectRefused expects that a rule cannot come behind the others.
func expectRefused(t *testing.T, c api.Codex, r api.Rule, want api.Errno) {
	t.Helper()
	got, e := codex.Amend(c, r)
	if e != want || len(got.Decls) > 0 || len(got.Rules) > 0 {
		t.Errorf("%s behind%s: got%s, %v, want %v", brief([]api.Rule{r}), brief(c.Rules), brief(got.Rules), e, want)
	}
}

// changed is a rule with a change.
func changed(r api.Rule, change func(r *api.Rule)) api.Rule {
	change(&r)
	return r
}

// P12.1: the first rule of a name, with the version 1 and with others, behind none and behind others.
func TestFirstVersions(t *testing.T) {
	for _, c := range []api.Codex{{}, bylaws(), bylaws(rules("x 0 10 5")...), bylaws(rules("x 0 10 5", "y 0 10 36524", "x 0 10 6")...)} {
		for _, version := range []int{0, 2, 3, 4, -1, 999, 1000, math.MinInt, math.MaxInt} {
			expectRefused(t, c, rule("new", version, 0, 10, 0), api.ErrState)
		}
		// It may be known before all of the others.
		for _, known := range []int{0, 4, 5, 6, 36524} {
			expectAmended(t, c, rule("new", 1, 0, 10, known))
		}
		for _, kind := range kinds() {
			expectAmended(t, c, plain("new", kind))
		}
	}
}

// P12.1 and P12.7: a version that is there already, that leaves one out, and the next one.
func TestVersions(t *testing.T) {
	c := bylaws(rules("x 0 10 5", "y 0 10 5", "x 0 10 5", "z 0 10 5", "x 3 4 5")...)
	for name, last := range map[string]int{"x": 3, "y": 1, "z": 1} {
		for version := -3; version <= 10; version++ {
			r := rule(name, version, 20, 30, 5)
			switch {
			case version == last+1:
				expectAmended(t, c, r)
			case 1 <= version && version <= last:
				expectRefused(t, c, r, api.ErrTwice)
			default:
				expectRefused(t, c, r, api.ErrState)
			}
		}
		for _, version := range []int{999, 1000, math.MinInt, math.MaxInt} {
			expectRefused(t, c, rule(name, version, 20, 30, 5), api.ErrState)
		}
	}
}

// P12.1 and P12.7: a Known that is less than that of the last rule of the name, equal to it and greater; that of other rules does not matter.
func TestKnownOfAmendments(t *testing.T) {
	c := bylaws(rules("x 0 10 5", "y 0 10 36524", "x 0 10 9", "z 0 10 0")...)
	for _, known := range []int{-1, 0, 4, 5, 6, 8, math.MinInt} {
		expectRefused(t, c, rule("x", 3, 20, 30, known), api.ErrState)
	}
	for _, known := range []int{9, 10, 36524} {
		expectAmended(t, c, rule("x", 3, 20, 30, known))
	}
	for _, known := range []int{36525, math.MaxInt} {
		expectRefused(t, c, rule("x", 3, 20, 30, known), api.ErrRange)
	}
	for _, known := range []int{0, 5, 36523} {
		expectRefused(t, c, rule("y", 2, 20, 30, known), api.ErrState)
	}
	expectAmended(t, c, rule("y", 2, 20, 30, 36524))
	expectAmended(t, c, rule("z", 2, 20, 30, 0))
	expectRefused(t, c, rule("z", 2, 20, 30, -1), api.ErrState)
	// Without a rule of its name, a Known is only out of its range.
	for _, known := range []int{-1, 36525, math.MinInt, math.MaxInt} {
		expectRefused(t, c, rule("new", 1, 20, 30, known), api.ErrRange)
	}
}

// P12.1: the 100th and the 101st rule.
func TestLimit(t *testing.T) {
	apart, together := bylaws(), bylaws()
	for i := range 100 {
		other, next := rule("x"+strconv.Itoa(i), 1, i, 36525, 0), rule("x", i+1, i, 36525, i)
		expectAmended(t, apart, other)
		expectAmended(t, together, next)
		apart.Rules, together.Rules = append(apart.Rules, other), append(together.Rules, next)
	}
	for _, c := range []api.Codex{apart, together} {
		// The limit comes before whatever is wrong with the rule.
		for _, r := range []api.Rule{rule("new", 1, 0, 10, 0), rule("x", 101, 0, 10, 99), rule("x5", 2, 0, 10, 0), rule("x", 1, 0, 10, 0), rule("x5", 1, 0, 10, 0), rule("x", 7, 0, 10, -1), rule("", 7, 0, 10, -1), {}} {
			expectRefused(t, c, r, api.ErrLimit)
		}
		full := c
		full.Rules = c.Rules[:99]
		expectRefused(t, full, rule("new", 2, 0, 10, 0), api.ErrState)
		expectRefused(t, full, c.Rules[98], api.ErrTwice)
		expectAmended(t, full, rule("new", 1, 0, 10, 0))
		// By-laws in which something is wrong come before the limit.
		full.Rules = append(slices.Clone(c.Rules), rule("new", 1, 0, 10, 0))
		expectRefused(t, full, rule("new", 1, 0, 10, 0), api.ErrArg)
		full.Rules = slices.Clone(c.Rules)
		full.Rules[50].Known = -1
		expectRefused(t, full, rule("new", 1, 0, 10, 0), api.ErrArg)
	}
}

// mistakes are changes of a rule, each of which makes one thing wrong, and the error that it leads to.
func mistakes() map[api.Errno][]func(r *api.Rule) {
	return map[api.Errno][]func(r *api.Rule){
		api.ErrArg: {
			func(r *api.Rule) { r.Kind = 0 },
			func(r *api.Rule) { r.Kind = 8 },
			func(r *api.Rule) { r.Act = "No" },
			func(r *api.Rule) { r.When = api.Node{} },
			func(r *api.Rule) { r.Give = node(api.OpNot) },
			func(r *api.Rule) { r.Give = node(api.OpAdd, r.Give) },
		},
		api.ErrRange: {
			func(r *api.Rule) { r.Days.From = -1 },
			func(r *api.Rule) { r.Days.Until = r.Days.From },
			func(r *api.Rule) { r.Days.Until = 36526 },
			func(r *api.Rule) { r.Days = api.Span{From: math.MinInt, Until: math.MaxInt} },
			func(r *api.Rule) { r.Known = 36525 },
		},
		api.ErrScope: {
			func(r *api.Rule) { r.Act = "act" },
			func(r *api.Rule) { r.Kind = api.RuleDuty },
		},
		api.ErrName: {
			func(r *api.Rule) { r.When = fact("unknown") },
			func(r *api.Rule) { r.Give = node(api.OpMul, r.Give, fact("unknown")) },
		},
		api.ErrUnit: {
			func(r *api.Rule) { r.When = fact("k") },
			func(r *api.Rule) { r.When = node(api.OpAnd, yes(), fact("d")) },
			func(r *api.Rule) { r.Give = fact("a") },
			func(r *api.Rule) { r.Give = number(0, api.Unit{}) },
			func(r *api.Rule) { r.Give = node(api.OpAdd, fact("k"), fact("a")) },
		},
	}
}

// P12.1: each error of the rule itself, with a first version and with a later one.
func TestErrors(t *testing.T) {
	c := bylaws(rules("x 0 10 5", "y 0 10 5")...)
	for want, all := range mistakes() {
		for _, change := range all {
			expectRefused(t, api.Codex{Decls: house()}, changed(rule("new", 1, 3, 10, 5), change), want)
			expectRefused(t, c, changed(rule("new", 1, 3, 10, 5), change), want)
			expectRefused(t, c, changed(rule("x", 2, 3, 10, 5), change), want)
			expectRefused(t, c, changed(rule("y", 2, 3, 10, 6), change), want)
		}
	}
	for _, name := range []string{"", "X", "true", "a b", "abcdefghijklmnopq"} {
		expectRefused(t, c, rule(name, 1, 3, 10, 5), api.ErrArg)
		expectRefused(t, c, rule(name, 2, 3, 10, 5), api.ErrState)
	}
	expectRefused(t, c, api.Rule{}, api.ErrState)
	expectRefused(t, c, api.Rule{Version: 1}, api.ErrArg)
	expectRefused(t, api.Codex{}, changed(rule("x", 1, 3, 10, 5), func(r *api.Rule) { r.Give = fact("m") }), api.ErrName)
}

// crowded are by-laws with 100 rules.
func crowded() api.Codex {
	c := bylaws(rules("x 0 10 5", "y 0 10 5", "x 0 10 7")...)
	for i := range 97 {
		c.Rules = append(c.Rules, rule("z", i+1, 0, 10, 36524))
	}
	return c
}

// P12.1: several errors at once, in their order: all of them together, each choice of them, and none.
func TestSeveralErrors(t *testing.T) {
	type step struct {
		want  api.Errno
		wrong func(c *api.Codex, r *api.Rule)
	}
	steps := []step{
		{api.ErrArg, func(c *api.Codex, r *api.Rule) { c.Rules[1].Days.Until = 0 }},
		{api.ErrLimit, func(c *api.Codex, r *api.Rule) { c.Rules = crowded().Rules }},
		{api.ErrTwice, func(c *api.Codex, r *api.Rule) { r.Version = 2 }},
		{api.ErrState, func(c *api.Codex, r *api.Rule) { r.Known = 6 }},
		{api.ErrArg, func(c *api.Codex, r *api.Rule) { r.Act = "No" }},
		{api.ErrRange, func(c *api.Codex, r *api.Rule) { r.Days.Until = 36526 }},
		{api.ErrScope, func(c *api.Codex, r *api.Rule) { r.Kind = api.RuleRight }},
		{api.ErrName, func(c *api.Codex, r *api.Rule) { r.When = fact("unknown") }},
		{api.ErrUnit, func(c *api.Codex, r *api.Rule) { r.Give = fact("a") }},
	}
	for chosen := range 1 << len(steps) {
		c, r := bylaws(crowded().Rules[:3]...), rule("x", 3, 3, 10, 7)
		want := api.OK
		// The limit lays other rules under the by-laws, so that what is wrong with them comes behind it.
		for _, i := range []int{8, 7, 6, 5, 4, 3, 2, 1, 0} {
			if chosen>>i&1 == 1 {
				steps[i].wrong(&c, &r)
				want = steps[i].want
			}
		}
		if want == api.OK {
			expectAmended(t, c, r)
		} else {
			expectRefused(t, c, r, want)
		}
	}
	c := bylaws(crowded().Rules[:3]...)
	for version := range 3 {
		want := []api.Errno{api.ErrState, api.ErrTwice, api.ErrTwice}[version]
		for _, known := range []int{-1, 0, 6, 7, 8, 36525} {
			expectRefused(t, c, rule("x", version, 3, 10, known), want)
		}
	}
	// When comes before Give, whatever is wrong with them.
	r := rule("x", 3, 3, 10, 7)
	r.When, r.Give = fact("unknown"), fact("a")
	expectRefused(t, c, r, api.ErrName)
	r.When, r.Give = fact("k"), fact("unknown")
	expectRefused(t, c, r, api.ErrUnit)
}

// P12.1 and P12.7: another kind or another act than the versions before.
func TestOtherKind(t *testing.T) {
	for _, kind := range kinds() {
		first := plain("x", kind)
		c := bylaws(first, plain("y", api.RuleBan))
		for _, other := range kinds() {
			next := plain("x", other)
			next.Version = 2
			if other == kind {
				expectAmended(t, c, next)
			} else {
				expectRefused(t, c, next, api.ErrScope)
			}
			next.Act = "other"
			expectRefused(t, c, next, api.ErrScope)
			next.Act = ""
			if other != kind || hasAct(kind) {
				expectRefused(t, c, next, api.ErrScope)
			}
		}
	}
	// The act of another rule does not matter, nor does its kind.
	ban := plain("new", api.RuleBan)
	expectAmended(t, bylaws(plain("x", api.RuleDuty), plain("y", api.RuleCharge)), ban)
	ban.Act = "other"
	expectAmended(t, bylaws(plain("x", api.RuleDuty), plain("y", api.RuleCharge)), ban)
}

// P12.1: an amendment may follow an amendment, on any days, and stands in force from its Known on.
func TestAmendments(t *testing.T) {
	c := bylaws()
	for _, r := range rules("x 10 20 0", "y 10 20 5", "x 0 36525 5", "x 15 16 5", "y 12 13 36524") {
		next, e := codex.Amend(c, r)
		if e != api.OK {
			t.Fatal(brief(next.Rules), e)
		}
		c = next
	}
	expectForce(t, c, 15, 4, 0)
	expectForce(t, c, 15, 5, 1, 3)
	expectForce(t, c, 12, 5, 1, 2)
	expectForce(t, c, 12, 36524, 2, 4)
	expectForce(t, c, 0, 5, 2)
	expectChanges(t, c, 4, 10, 20)
	expectChanges(t, c, 5, 10, 15, 16, 20)
	expectChanges(t, c, 36524, 10, 12, 13, 15, 16, 20)
}
