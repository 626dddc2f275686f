package units_test

import (
	"slices"
	"testing"

	"cohousing/api"
	"cohousing/units"
)

// Units as the chapter names them.
var (
	flag   = api.Unit{Flag: true}
	pure   = api.Unit{}
	money  = api.Unit{Money: 1}
	area   = api.Unit{Area: 1}
	length = api.Unit{Days: 1}
)

// basic are the units that declarations and numbers may have.
func basic() []api.Unit { return []api.Unit{flag, pure, money, area, length} }

// house declares a fact of each basic unit.
func house() []api.Decl {
	return []api.Decl{
		{Name: "p", Unit: flag, Hi: 1, At: 1},
		{Name: "k", Unit: pure, Hi: 7, At: 2},
		{Name: "m", Unit: money, Hi: 7, At: 3},
		{Name: "a", Unit: area, Lo: 1, Hi: 4, At: 4},
		{Name: "d", Unit: length, Lo: 5, Hi: 8, At: 5},
	}
}

func fact(name string) api.Node { return api.Node{Op: api.OpFact, Name: name, At: 11} }

func number(n, d int, unit api.Unit) api.Node {
	return api.Node{Op: api.OpNumber, N: api.Rat{N: n, D: d}, Unit: unit, At: 12}
}

func yes() api.Node { return api.Node{Op: api.OpTrue, At: 13} }

// node is a node with operands.
func node(op int, kids ...api.Node) api.Node { return api.Node{Op: op, At: 14, Kids: kids} }

func not(n api.Node) api.Node { return node(api.OpNot, n) }

// there is where the error of an expression is expected; no node stands there unless it is marked.
const there = 77

// marked is a node that has an error.
func marked(n api.Node) api.Node {
	n.At = there
	return n
}

// cut is the upper part of an expression, to be shown: some contain themselves.
func cut(n api.Node, levels int) api.Node {
	kids := n.Kids[:min(4, len(n.Kids))]
	n.Kids = nil
	for _, kid := range kids {
		if levels > 0 {
			n.Kids = append(n.Kids, cut(kid, levels-1))
		}
	}
	return n
}

// cutBylaws is what is shown of by-laws.
func cutBylaws(c api.Codex) api.Codex {
	c.Decls = c.Decls[:min(13, len(c.Decls))]
	c.Rules = slices.Clone(c.Rules[:min(5, len(c.Rules))])
	for i, u := range c.Rules {
		c.Rules[i].When, c.Rules[i].Give = cut(u.When, 4), cut(u.Give, 4)
	}
	return c
}

// expectUnit expects the unit of an expression.
func expectUnit(t *testing.T, l []api.Decl, n api.Node, want api.Unit) {
	t.Helper()
	if unit, e, at := units.Of(l, n); unit != want || e != api.OK || at != 0 {
		t.Errorf("%+v: got %v, %v at %d; want %v", cut(n, 4), unit, e, at, want)
	}
}

// expectError expects an error at a place of an expression.
func expectError(t *testing.T, l []api.Decl, n api.Node, want api.Errno, place int) {
	t.Helper()
	if unit, e, at := units.Of(l, n); unit != pure || e != want || at != place {
		t.Errorf("%+v: got %v, %v at %d; want %v at %d", cut(n, 4), unit, e, at, want, place)
	}
}

// Places of a plain rule.
const (
	atRule = 40
	atWhen = 50
	atGive = 60
)

// kinds are those of rules.
func kinds() []int {
	return []int{api.RuleCharge, api.RuleRight, api.RuleDuty, api.RuleBan, api.RuleRooms, api.RuleVote, api.RuleNotice}
}

// plain is a rule of a kind in which nothing is wrong.
func plain(kind int) api.Rule {
	u := api.Rule{Name: "x", Version: 1, Kind: kind, Days: api.Span{From: 0, Until: 36525}, At: atRule, When: yes()}
	unit := pure
	switch kind {
	case api.RuleCharge, api.RuleRight:
		unit = money
	case api.RuleNotice:
		unit = length
	}
	if kind == api.RuleDuty || kind == api.RuleBan || kind == api.RuleVote || kind == api.RuleNotice {
		u.Act = "act"
	}
	u.Give = number(0, 1, unit)
	u.When.At, u.Give.At = atWhen, atGive
	return u
}

// bylaws are those of the house with some rules.
func bylaws(rules ...api.Rule) api.Codex { return api.Codex{Decls: house(), Rules: rules} }

// expect holds what is wrong with by-laws against what is expected.
func expect(t *testing.T, c api.Codex, want ...api.Diag) {
	t.Helper()
	if got := units.Check(c); !slices.Equal(got, want) {
		t.Errorf("%+v: got %v, want %v", cutBylaws(c), got, want)
	}
}

// malformed is what is wrong with by-laws that are not well-formed.
func malformed() api.Diag { return api.Diag{At: 0, E: api.ErrArg} }

// expectFormed expects that an expression is well-formed, or that it is not: alone, as an operand, and in rules.
func expectFormed(t *testing.T, n api.Node, want bool) {
	t.Helper()
	if got := units.Valid(house(), n); got != want {
		t.Errorf("%+v: got %v, want %v", cut(n, 4), got, want)
	}
	for _, change := range []func(u *api.Rule){func(u *api.Rule) { u.When = n }, func(u *api.Rule) { u.Give = n }} {
		u := plain(api.RuleCharge)
		change(&u)
		next := u
		next.Name = "y"
		for _, c := range []api.Codex{bylaws(u), bylaws(next, plain(api.RuleBan)), bylaws(plain(api.RuleRooms), next)} {
			if isMalformed := slices.Contains(units.Check(c), malformed()); isMalformed == want {
				t.Errorf("%+v: well-formed by-laws: %v, want %v", cut(n, 4), !isMalformed, want)
			}
		}
		if !want {
			expect(t, bylaws(u), malformed())
			expect(t, bylaws(plain(api.RuleVote), next), malformed())
		}
	}
	if want {
		return
	}
	expectError(t, house(), n, api.ErrArg, 0)
	for _, whole := range []api.Node{not(n), node(api.OpAdd, n, fact("k")), node(api.OpIf, yes(), fact("k"), n), node(api.OpEq, fact("unknown"), n)} {
		if units.Valid(house(), whole) {
			t.Errorf("%+v is well-formed", cut(whole, 4))
		}
		expectError(t, house(), whole, api.ErrArg, 0)
	}
}

// P11.1: the examples of the chapter.
func TestExamples(t *testing.T) {
	l := []api.Decl{{Name: "persons", Hi: 6}, {Name: "rent", Unit: money, Hi: 500}}
	persons, rent := fact("persons"), fact("rent")
	expectUnit(t, l, node(api.OpMul, rent, number(2, 1, pure)), money)
	expectUnit(t, l, node(api.OpMul, rent, rent), api.Unit{Money: 2})
	expectUnit(t, l, node(api.OpLt, persons, number(3, 1, pure)), flag)
	expectError(t, l, marked(node(api.OpAdd, rent, persons)), api.ErrUnit, there)
}

// P11.1: expressions without operands, and without declarations.
func TestLeaves(t *testing.T) {
	for _, l := range [][]api.Decl{nil, {}, house()} {
		expectUnit(t, l, yes(), flag)
		expectUnit(t, l, number(5, 2, pure), pure)
		expectUnit(t, l, number(500, 1, money), money)
		expectUnit(t, l, number(1, 3, area), area)
		expectUnit(t, l, number(0, 1, length), length)
		expectError(t, l, marked(fact("b")), api.ErrName, there)
	}
	for i, name := range []string{"p", "k", "m", "a", "d"} {
		expectUnit(t, house(), fact(name), basic()[i])
		expectUnit(t, house()[:i+1], fact(name), basic()[i])
		expectError(t, house()[:i], marked(fact(name)), api.ErrName, there)
		expectUnit(t, house()[i:], fact(name), basic()[i])
		expectError(t, house()[i+1:], marked(fact(name)), api.ErrName, there)
	}
}

// P11.1: by-laws with nothing in them, or with facts or rules alone.
func TestNothing(t *testing.T) {
	expect(t, api.Codex{})
	expect(t, api.Codex{Decls: []api.Decl{}, Rules: []api.Rule{}})
	expect(t, bylaws())
	for _, kind := range kinds() {
		expect(t, api.Codex{Rules: []api.Rule{plain(kind)}})
		expect(t, bylaws(plain(kind)))
	}
}
