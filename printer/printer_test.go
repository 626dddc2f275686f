package printer_test

import (
	"slices"
	"strings"
	"testing"

	"cohousing/api"
	"cohousing/parser"
	"cohousing/printer"
)

// isSame takes no operands and an empty list of them as the same, and does not mind offsets.
func isSame(a, b api.Node) bool {
	return a.Op == b.Op && a.Name == b.Name && a.N == b.N && a.Unit == b.Unit && slices.EqualFunc(a.Kids, b.Kids, isSame)
}

func isSameFact(a, b api.Decl) bool {
	a.At = b.At
	return a == b
}

func isSameRule(a, b api.Rule) bool {
	return a.Name == b.Name && a.Version == b.Version && a.Kind == b.Kind && a.Act == b.Act && a.Days == b.Days && a.Known == b.Known && isSame(a.When, b.When) && isSame(a.Give, b.Give)
}

func isSameCodex(a, b api.Codex) bool {
	return slices.EqualFunc(a.Decls, b.Decls, isSameFact) && slices.EqualFunc(a.Rules, b.Rules, isSameRule)
}

// number is the node of a number without a unit.
func number(n, d int) api.Node { return api.Node{Op: api.OpNumber, N: api.Rat{N: n, D: d}} }

// of is the node of a number with a unit.
func of(unit string, n api.Node) api.Node {
	n.Unit = units()[unit]
	return n
}

// cents is the node of an amount.
func cents(n int) api.Node { return of("money", number(n, 1)) }

func name(text string) api.Node { return api.Node{Op: api.OpFact, Name: text} }

func yes() api.Node { return api.Node{Op: api.OpTrue} }

// node is a node with operands.
func node(op int, kids ...api.Node) api.Node { return api.Node{Op: op, Kids: kids} }

func not(n api.Node) api.Node { return node(api.OpNot, n) }

// expectExpr holds texts of expressions against the ones that the chapter asks for, and reads them back.
func expectExpr(t *testing.T, cases map[string]api.Node) {
	t.Helper()
	for want, n := range cases {
		if text, e := printer.Expr(n); text != want || e != api.OK {
			t.Errorf("%v: got %q, %v; want %q", n, text, e, want)
		}
		if back, e, at := parser.Expr(want); !isSame(back, n) || e != api.OK {
			t.Errorf("%q is %v, %v at %d; and not %v", want, back, e, at, n)
		}
	}
}

// refuseExpr expects that expressions are not printable, alone, as operands, and in rules.
func refuseExpr(t *testing.T, all ...api.Node) {
	t.Helper()
	for _, n := range all {
		for _, whole := range []api.Node{n, not(n), node(api.OpAdd, n, yes()), node(api.OpIf, yes(), number(1, 1), n)} {
			if text, e := printer.Expr(whole); text != "" || e != api.ErrArg {
				t.Errorf("%+v: got %q, %v; want ErrArg", whole, text, e)
			}
			one, two := plain("x"), plain("x")
			one.When, two.Give = whole, whole
			refuse(t, api.ErrArg, rules(one), rules(two), rules(plain("y"), two))
		}
	}
}

// expect holds texts of by-laws against the ones that the chapter asks for, and reads them back.
func expect(t *testing.T, cases map[string]api.Codex) {
	t.Helper()
	for want, c := range cases {
		if text, e := printer.Print(c); text != want || e != api.OK {
			t.Errorf("%+v: got %q, %v; want %q", c, text, e, want)
		}
		if back, all := parser.Parse(want); !isSameCodex(back, c) || len(all) > 0 {
			t.Errorf("%q are %+v, %v; and not %+v", want, back, all, c)
		}
	}
}

// refuse expects an error of by-laws.
func refuse(t *testing.T, want api.Errno, all ...api.Codex) {
	t.Helper()
	for _, c := range all {
		if text, e := printer.Print(c); text != "" || e != want {
			t.Errorf("%.300v: got %.300q, %v; want %v", c, text, e, want)
		}
	}
}

// facts are by-laws without rules.
func facts(all ...api.Decl) api.Codex { return api.Codex{Decls: all} }

// rules are by-laws without facts.
func rules(all ...api.Rule) api.Codex { return api.Codex{Rules: all} }

// plain is a rule with the parts alone that it must have.
func plain(name string) api.Rule {
	return api.Rule{Name: name, Version: 1, Kind: api.RuleCharge, Days: api.Span{Until: 36525}, When: yes(), Give: number(0, 1)}
}

// P10.1: the examples of the chapter, and those of the parser.
func TestExamples(t *testing.T) {
	a, b, c, x, y := name("a"), name("b"), name("c"), name("x"), name("y")
	expectExpr(t, map[string]api.Node{
		"a - (b - c)":                         node(api.OpSub, a, node(api.OpSub, b, c)),
		"a - b - c":                           node(api.OpSub, node(api.OpSub, a, b), c),
		"(if x then 1 else 2) * 12.50 money":  node(api.OpMul, node(api.OpIf, x, number(1, 1), number(2, 1)), cents(1250)),
		"not (x and y)":                       not(node(api.OpAnd, x, y)),
		"b + 1 < a":                           node(api.OpLt, node(api.OpAdd, b, number(1, 1)), a),
		"min(a, max(b, c))":                   node(api.OpMin, a, node(api.OpMax, b, c)),
		"a or b and c or true":                node(api.OpOr, node(api.OpOr, a, node(api.OpAnd, b, c)), yes()),
		"not not a = b":                       not(not(node(api.OpEq, a, b))),
		"if a then b else if c then x else 1": node(api.OpIf, a, b, node(api.OpIf, c, x, number(1, 1))),
	})
	rent := plain("rent")
	rent.Give = node(api.OpMul, name("rooms"), cents(1250))
	expect(t, map[string]api.Codex{
		"fact rooms: number 1 to 5;\ncharge rent 1 from 0 known 0 give rooms * 12.50 money;\n": {Decls: []api.Decl{{Name: "rooms", Lo: 1, Hi: 5}}, Rules: []api.Rule{rent}},
	})
}

// P10.1: by-laws without facts, without rules, and without both.
func TestNothing(t *testing.T) {
	expect(t, map[string]api.Codex{
		"":                                {},
		"fact a: number 0 to 0;\n":        facts(api.Decl{Name: "a"}),
		"charge x 1 from 0 known 0;\n":    rules(plain("x")),
		"charge min1 1 from 0 known 0;\n": rules(plain("min1")),
	})
	expect(t, map[string]api.Codex{"": {Decls: []api.Decl{}, Rules: []api.Rule{}}})
}

// P10.1: facts with each unit, bounds of all sizes in any order, and the same name twice.
func TestFacts(t *testing.T) {
	expect(t, map[string]api.Codex{
		"fact a: flag 0 to 1;\n":                             facts(api.Decl{Name: "a", Unit: api.Unit{Flag: true}, Hi: 1}),
		"fact a: number 2 to 7;\n":                           facts(api.Decl{Name: "a", Lo: 2, Hi: 7}),
		"fact a: money 0 to 500;\n":                          facts(api.Decl{Name: "a", Unit: api.Unit{Money: 1}, Hi: 500}),
		"fact a: area 20 to 90;\n":                           facts(api.Decl{Name: "a", Unit: api.Unit{Area: 1}, Lo: 20, Hi: 90}),
		"fact a: days 1 to 30;\n":                            facts(api.Decl{Name: "a", Unit: api.Unit{Days: 1}, Lo: 1, Hi: 30}),
		"fact fact: number 5 to 3;\n":                        facts(api.Decl{Name: "fact", Lo: 5, Hi: 3}),
		"fact charge: money 999999999 to 999999999;\n":       facts(api.Decl{Name: "charge", Unit: api.Unit{Money: 1}, Lo: 999999999, Hi: 999999999}),
		"fact abcdefghijklmnop: days 0 to 999999999;\n":      facts(api.Decl{Name: "abcdefghijklmnop", Unit: api.Unit{Days: 1}, Hi: 999999999}),
		"fact a1_: area 999999999 to 0;\n":                   facts(api.Decl{Name: "a1_", Unit: api.Unit{Area: 1}, Lo: 999999999}),
		"fact a: days 0 to 1;\nfact a: flag 10 to 2;\n":      facts(api.Decl{Name: "a", Unit: api.Unit{Days: 1}, Hi: 1}, api.Decl{Name: "a", Unit: api.Unit{Flag: true}, Lo: 10, Hi: 2}),
		"fact b: number 0 to 1;\nfact a: number 100 to 2;\n": facts(api.Decl{Name: "b", Hi: 1}, api.Decl{Name: "a", Lo: 100, Hi: 2}),
	})
}

// P10.1: a rule of each kind with and without each of its parts.
func TestParts(t *testing.T) {
	for i, kind := range kinds() {
		for parts := range 16 {
			u := plain("x")
			u.Kind, u.Version, u.Days.From, u.Known = i+1, 3, 5, 7
			var text strings.Builder
			text.WriteString(kind + " x 3")
			if parts&1 != 0 {
				text.WriteString(" about act")
				u.Act = "act"
			}
			text.WriteString(" from 5")
			if parts&2 != 0 {
				text.WriteString(" until 9")
				u.Days.Until = 9
			}
			text.WriteString(" known 7")
			if parts&4 != 0 {
				text.WriteString(" when p or true")
				u.When = node(api.OpOr, name("p"), yes())
			}
			if parts&8 != 0 {
				text.WriteString(" give 2.50 days")
				u.Give = of("days", number(5, 2))
			}
			text.WriteString(";\n")
			expect(t, map[string]api.Codex{text.String(): rules(u)})
		}
	}
}

// changedRule is a plain rule that a function has changed.
func changedRule(change func(u *api.Rule)) api.Codex {
	u := plain("x")
	change(&u)
	return rules(u)
}

// P10.1: which When and which Give are left out: `true`, and the number 0 with the unit `number`, and no others.
func TestWhatIsLeftOut(t *testing.T) {
	begin := "charge x 1 from 0 known 0"
	expect(t, map[string]api.Codex{begin + ";\n": rules(plain("x"))})
	for text, n := range map[string]api.Node{
		"0 money": cents(0), "0 flag": of("flag", number(0, 1)), "0 area": of("area", number(0, 1)), "0 days": of("days", number(0, 1)),
		"0.01 money": cents(1), "1": number(1, 1), "0.50": number(1, 2), "0.01": number(1, 100), "a": name("a"), "not true": not(yes()),
		"0 + 0": node(api.OpAdd, number(0, 1), number(0, 1)), "true and true": node(api.OpAnd, yes(), yes()), "min(0, 0)": node(api.OpMin, number(0, 1), number(0, 1)),
		"if true then true else 0": node(api.OpIf, yes(), yes(), number(0, 1)),
	} {
		expect(t, map[string]api.Codex{
			begin + " when " + text + ";\n":                   changedRule(func(u *api.Rule) { u.When = n }),
			begin + " give " + text + ";\n":                   changedRule(func(u *api.Rule) { u.Give = n }),
			begin + " when " + text + " give " + text + ";\n": changedRule(func(u *api.Rule) { u.When, u.Give = n, n }),
		})
	}
	expect(t, map[string]api.Codex{
		begin + " when 0;\n":           changedRule(func(u *api.Rule) { u.When = number(0, 1) }),
		begin + " give true;\n":        changedRule(func(u *api.Rule) { u.Give = yes() }),
		begin + " when 0 give true;\n": changedRule(func(u *api.Rule) { u.When, u.Give = number(0, 1), yes() }),
	})
}

// P10.1: which Until is left out: 36525, and no other one.
func TestUntil(t *testing.T) {
	for text, until := range map[string]int{" until 0": 0, " until 1": 1, " until 36524": 36524, "": 36525, " until 36526": 36526, " until 999999999": 999999999} {
		expect(t, map[string]api.Codex{
			"charge x 1 from 0" + text + " known 0;\n":             changedRule(func(u *api.Rule) { u.Days.Until = until }),
			"charge x 1 from 36525" + text + " known 0;\n":         changedRule(func(u *api.Rule) { u.Days = api.Span{From: 36525, Until: until} }),
			"charge x 1 about y from 9" + text + " known 36525;\n": changedRule(func(u *api.Rule) { u.Days, u.Act, u.Known = api.Span{From: 9, Until: until}, "y", 36525 }),
		})
	}
}

// P10.1: several facts and rules, in their order, with names that are kinds of rules, and expressions of all sorts.
func TestMixed(t *testing.T) {
	half := api.Rule{Name: "ban", Version: 2, Kind: api.RuleVote, Act: "fact", Days: api.Span{From: 31, Until: 60}, Known: 5, When: node(api.OpLt, number(1, 1), name("rooms")), Give: number(1, 2)}
	duty := api.Rule{Name: "fact", Version: 0, Kind: api.RuleDuty, Act: "notice", Days: api.Span{From: 999999999, Until: 36525}, Known: 999999999, When: not(node(api.OpOr, name("pets"), name("charge"))), Give: number(0, 1)}
	expect(t, map[string]api.Codex{
		"fact rooms: number 1 to 5;\nfact pets: flag 0 to 1;\nvote ban 2 about fact from 31 until 60 known 5 when 1 < rooms give 0.50;\nduty fact 0 about notice from 999999999 known 999999999 when not (pets or charge);\nvote ban 2 about fact from 31 until 60 known 5 when 1 < rooms give 0.50;\n": {
			Decls: []api.Decl{{Name: "rooms", Lo: 1, Hi: 5}, {Name: "pets", Unit: api.Unit{Flag: true}, Hi: 1}},
			Rules: []api.Rule{half, duty, half},
		},
	})
}
