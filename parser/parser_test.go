package parser_test

import (
	"slices"
	"strings"
	"testing"

	"cohousing/api"
	"cohousing/parser"
)

// isSame takes no operands and an empty list of them as the same.
func isSame(a, b api.Node) bool {
	return a.Op == b.Op && a.At == b.At && a.Name == b.Name && a.N == b.N && a.Unit == b.Unit && slices.EqualFunc(a.Kids, b.Kids, isSame)
}

func isSameRule(a, b api.Rule) bool {
	return a.Name == b.Name && a.Version == b.Version && a.Kind == b.Kind && a.Act == b.Act && a.Days == b.Days && a.Known == b.Known && a.At == b.At && isSame(a.When, b.When) && isSame(a.Give, b.Give)
}

func isSameCodex(a, b api.Codex) bool {
	return slices.Equal(a.Decls, b.Decls) && slices.EqualFunc(a.Rules, b.Rules, isSameRule)
}

// number is the node of a number without a unit.
func number(at, n, d int) api.Node {
	return api.Node{Op: api.OpNumber, At: at, N: api.Rat{N: n, D: d}}
}

// of is the node of a number with a unit.
func of(unit string, n api.Node) api.Node {
	n.Unit = units()[unit]
	return n
}

func name(at int, text string) api.Node { return api.Node{Op: api.OpFact, At: at, Name: text} }

func yes(at int) api.Node { return api.Node{Op: api.OpTrue, At: at} }

func not(at int, a api.Node) api.Node {
	return api.Node{Op: api.OpNot, At: at, Kids: []api.Node{a}}
}

func pair(op, at int, a, b api.Node) api.Node {
	return api.Node{Op: op, At: at, Kids: []api.Node{a, b}}
}

func choice(at int, a, b, c api.Node) api.Node {
	return api.Node{Op: api.OpIf, At: at, Kids: []api.Node{a, b, c}}
}

// expectExpr holds expressions against the ones that the chapter asks for.
func expectExpr(t *testing.T, cases map[string]api.Node) {
	t.Helper()
	for source, want := range cases {
		if n, e, at := parser.Expr(source); !isSame(n, want) || e != api.OK || at != 0 {
			t.Errorf("%.200q: got %v, %v at %d; want %v", source, n, e, at, want)
		}
	}
}

// diag is an error and its byte offset.
func diag(e api.Errno, at int) api.Diag { return api.Diag{At: at, E: e} }

// syntax is an ErrSyntax.
func syntax(at int) api.Diag { return diag(api.ErrSyntax, at) }

// refuseExpr holds the errors of expressions against the ones that the chapter asks for.
func refuseExpr(t *testing.T, cases map[string]api.Diag) {
	t.Helper()
	for source, want := range cases {
		if n, e, at := parser.Expr(source); !isSame(n, api.Node{}) || diag(e, at) != want {
			t.Errorf("%.200q: got %v, %v at %d; want %v", source, n, e, at, want)
		}
	}
}

// expect holds by-laws against the ones that the chapter asks for.
func expect(t *testing.T, cases map[string]api.Codex) {
	t.Helper()
	for source, want := range cases {
		if c, all := parser.Parse(source); !isSameCodex(c, want) || len(all) != 0 {
			t.Errorf("%.200q: got %v, %v; want %v", source, c, all, want)
		}
	}
}

// refuse holds the errors of by-laws against the ones that the chapter asks for.
func refuse(t *testing.T, cases map[string][]api.Diag) {
	t.Helper()
	for source, want := range cases {
		if c, all := parser.Parse(source); !isSameCodex(c, api.Codex{}) || !slices.Equal(all, want) {
			t.Errorf("%.200q: got %v, %v; want %v", source, c, all, want)
		}
	}
}

// facts are by-laws without rules.
func facts(all ...api.Decl) api.Codex { return api.Codex{Decls: all} }

// rules are by-laws without facts.
func rules(all ...api.Rule) api.Codex { return api.Codex{Rules: all} }

// plain is a rule of the kind 1 from 0 on, known from 0 on, that has no other parts.
func plain(at int, name string) api.Rule {
	return api.Rule{Name: name, Version: 1, Kind: 1, Days: api.Span{From: 0, Until: 36525}, When: yes(at), Give: number(at, 0, 1), At: at}
}

// P9.1: the examples of the chapter.
func TestExamples(t *testing.T) {
	rent := plain(27, "rent")
	rent.Give = pair(api.OpMul, 61, name(61, "rooms"), of("money", number(69, 1250, 1)))
	expect(t, map[string]api.Codex{
		"fact rooms: number 1 to 5; charge rent 1 from 0 known 0 give rooms * 12.50 money;": {
			Decls: []api.Decl{{Name: "rooms", Lo: 1, Hi: 5}},
			Rules: []api.Rule{rent},
		},
	})
	expectExpr(t, map[string]api.Node{
		"a > b + 1": pair(api.OpLt, 0, pair(api.OpAdd, 4, name(4, "b"), number(8, 1, 1)), name(0, "a")),
	})
	refuse(t, map[string][]api.Diag{
		"charge rent 1.5 from 0 known 0;": {diag(api.ErrRange, 12)},
		"duty x 1 from 0;":                {syntax(15)},
		"duty x":                          {syntax(6)},
	})
}

// P9.1: sources without tokens.
func TestNothing(t *testing.T) {
	for _, source := range []string{"", " ", "\n", " \t\r\n ", "#", "# fact", "# x\n", "\n# a\n\n#"} {
		expect(t, map[string]api.Codex{source: {}})
		refuseExpr(t, map[string]api.Diag{source: syntax(len(source))})
	}
}

// P9.1: facts with each unit, bounds that are written in all ways, and names that are kinds of rules, or `fact`.
func TestFacts(t *testing.T) {
	expect(t, map[string]api.Codex{
		"fact a: flag 0 to 1;":                       facts(api.Decl{Name: "a", Unit: api.Unit{Flag: true}, Hi: 1}),
		"fact a: number 2 to 7;":                     facts(api.Decl{Name: "a", Lo: 2, Hi: 7}),
		"fact a: money 0 to 500;":                    facts(api.Decl{Name: "a", Unit: api.Unit{Money: 1}, Hi: 500}),
		"fact a: area 20 to 90;":                     facts(api.Decl{Name: "a", Unit: api.Unit{Area: 1}, Lo: 20, Hi: 90}),
		"fact a: days 1 to 30;":                      facts(api.Decl{Name: "a", Unit: api.Unit{Days: 1}, Lo: 1, Hi: 30}),
		"fact fact: number 5 to 3;":                  facts(api.Decl{Name: "fact", Lo: 5, Hi: 3}),
		"fact charge: number 007 to 8.0;":            facts(api.Decl{Name: "charge", Lo: 7, Hi: 8}),
		"fact abcdefghijklmnop:number 0 to 0;":       facts(api.Decl{Name: "abcdefghijklmnop"}),
		"fact a: money 999999999 to 999999999;":      facts(api.Decl{Name: "a", Unit: api.Unit{Money: 1}, Lo: 999999999, Hi: 999999999}),
		"fact a: days 0 to 1;\nfact a: flag 0 to 2;": facts(api.Decl{Name: "a", Unit: api.Unit{Days: 1}, Hi: 1}, api.Decl{Name: "a", Unit: api.Unit{Flag: true}, Hi: 2, At: 21}),
		"fact a1_: number 20000000.00 to 00000000;":  facts(api.Decl{Name: "a1_", Lo: 20000000}),
	})
}

// P9.1: a rule with and without each of its parts.
func TestParts(t *testing.T) {
	for i, kind := range kinds() {
		for parts := range 16 {
			var source strings.Builder
			write := func(text string) int {
				source.WriteString(text)
				return source.Len()
			}
			u := plain(write("\n"), "x")
			u.Kind, u.Version, u.Days.From, u.Known = i+1, 3, 5, 7
			write(kind + " x 3")
			if parts&1 != 0 {
				write(" about act")
				u.Act = "act"
			}
			write(" from 5")
			if parts&2 != 0 {
				write(" until 9")
				u.Days.Until = 9
			}
			write(" known 7")
			if parts&4 != 0 {
				at := write(" when ")
				u.When = pair(api.OpOr, at, name(at, "p"), yes(at+5))
				write("p or true")
			}
			if parts&8 != 0 {
				u.Give = of("days", number(write(" give "), 5, 2))
				write("2.50 days")
			}
			write(";")
			expect(t, map[string]api.Codex{source.String(): rules(u)})
		}
	}
}

// P9.1: the parts of a rule with numbers of all sizes, and kinds of rules and `fact` as names; the same names twice.
func TestRules(t *testing.T) {
	large := plain(0, "ban")
	large.Kind, large.Version, large.Act, large.Days, large.Known = 4, 999999999, "fact", api.Span{From: 999999999, Until: 999999999}, 999999999
	small := plain(0, "fact")
	small.Kind, small.Version, small.Act, small.Days = 7, 0, "notice", api.Span{}
	twice := plain(26, "x")
	twice.Kind = 2
	dotted := plain(0, "rooms")
	dotted.Kind, dotted.Version, dotted.Days, dotted.Known = 5, 7, api.Span{From: 1, Until: 36525}, 20000000
	expect(t, map[string]api.Codex{
		"ban ban 999999999 about fact from 999999999 until 999999999 known 999999999;": rules(large),
		"notice fact 0 about notice from 0 until 0 known 0;":                           rules(small),
		"charge x 1 from 0 known 0;right x 1 from 0 known 0;":                          rules(plain(0, "x"), twice),
		"rooms rooms 7.00 from 1.0 until 036525.0 known 20000000.00;":                  rules(dotted),
	})
}

// P9.1: facts and rules in any order; each of them has the order of its own ones.
func TestMixed(t *testing.T) {
	expect(t, map[string]api.Codex{
		"charge x 1 from 0 known 0;fact a: flag 0 to 1;charge y 1 from 0 known 0;fact b: days 0 to 1;": {
			Decls: []api.Decl{{Name: "a", Unit: api.Unit{Flag: true}, Hi: 1, At: 26}, {Name: "b", Unit: api.Unit{Days: 1}, Hi: 1, At: 72}},
			Rules: []api.Rule{plain(0, "x"), plain(46, "y")},
		},
	})
}
