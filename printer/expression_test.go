package printer_test

import (
	"math"
	"slices"
	"strings"
	"testing"

	"cohousing/api"
)

// P10.1: numbers with each unit, and with none; amounts are written in units of 100 cents.
func TestNumbers(t *testing.T) {
	expectExpr(t, map[string]api.Node{
		"0":                number(0, 1),
		"1":                number(1, 1),
		"10":               number(10, 1),
		"100":              number(100, 1),
		"0.50":             number(1, 2),
		"0.25":             number(1, 4),
		"0.20":             number(1, 5),
		"0.10":             number(1, 10),
		"0.05":             number(1, 20),
		"0.04":             number(1, 25),
		"0.02":             number(1, 50),
		"0.01":             number(1, 100),
		"0.09":             number(9, 100),
		"0.99":             number(99, 100),
		"1.01":             number(101, 100),
		"12.34":            number(617, 50),
		"12.50":            number(25, 2),
		"999999999":        number(999999999, 1),
		"499999999.50":     number(999999999, 2),
		"9999999.99":       number(999999999, 100),
		"39999999.96":      number(999999999, 25),
		"0 flag":           of("flag", number(0, 1)),
		"1 flag":           of("flag", number(1, 1)),
		"0.50 flag":        of("flag", number(1, 2)),
		"999999999 flag":   of("flag", number(999999999, 1)),
		"0 area":           of("area", number(0, 1)),
		"65.50 area":       of("area", number(131, 2)),
		"999999999 area":   of("area", number(999999999, 1)),
		"0 days":           of("days", number(0, 1)),
		"14 days":          of("days", number(14, 1)),
		"0.01 days":        of("days", number(1, 100)),
		"999999999 days":   of("days", number(999999999, 1)),
		"0 money":          cents(0),
		"0.01 money":       cents(1),
		"0.09 money":       cents(9),
		"0.10 money":       cents(10),
		"0.99 money":       cents(99),
		"1 money":          cents(100),
		"1.01 money":       cents(101),
		"1.10 money":       cents(110),
		"12.50 money":      cents(1250),
		"100 money":        cents(10000),
		"9999999.99 money": cents(999999999),
		"10000000 money":   cents(1000000000),
	})
}

// P10.1: numbers that cannot be written: too great, below 0, with other denominators, and such that are none.
func TestNoNumbers(t *testing.T) {
	for _, unit := range []string{"flag", "number", "money", "area", "days"} {
		for _, n := range []api.Rat{
			{N: -1, D: 1}, {N: -1, D: 2}, {N: -1, D: 100}, {N: -1000000000, D: 1}, {N: -1, D: 3},
			{N: 1, D: 3}, {N: 1, D: 8}, {N: 1, D: 6}, {N: 1, D: 40}, {N: 1, D: 200}, {N: 1, D: 1000}, {N: 999999999, D: 1000000000}, {N: 1000000000, D: 3}, {N: 1, D: 1000000000},
			{N: 1000000001, D: 1}, {N: 1000000001, D: 2}, {N: 1000000001, D: 100},
			{}, {N: 1, D: 0}, {N: 0, D: 2}, {N: 0, D: -1}, {N: 1, D: -1}, {N: -1, D: -1}, {N: 2, D: 2}, {N: 2, D: 4}, {N: 50, D: 100}, {N: 100, D: 100}, {N: 1, D: 1000000001},
			{N: math.MaxInt, D: 1}, {N: math.MinInt, D: 1}, {N: 1, D: math.MaxInt}, {N: 1, D: math.MinInt}, {N: math.MinInt, D: math.MinInt}, {N: math.MaxInt, D: math.MaxInt}, {N: math.MinInt, D: -1},
		} {
			refuseExpr(t, of(unit, number(n.N, n.D)))
		}
	}
	for _, unit := range []string{"flag", "number", "area", "days"} {
		refuseExpr(t, of(unit, number(1000000000, 1)))
	}
	for _, d := range []int{2, 4, 5, 10, 20, 25, 50, 100} {
		refuseExpr(t, of("money", number(1, d)), of("money", number(999999999, d)))
	}
}

// strangeUnits are units that are none of the five.
func strangeUnits() []api.Unit {
	return []api.Unit{
		{Flag: true, Money: 1}, {Flag: true, Area: 1}, {Flag: true, Days: 1}, {Flag: true, Money: -1},
		{Money: 2}, {Area: 2}, {Days: 2}, {Money: -1}, {Area: -1}, {Days: -1},
		{Money: 1, Area: 1}, {Money: 1, Days: 1}, {Area: 1, Days: 1}, {Money: 1, Area: -1}, {Money: 1, Days: -1}, {Money: 1, Area: 1, Days: 1},
		{Money: math.MaxInt}, {Area: math.MinInt}, {Days: math.MaxInt},
	}
}

// P10.1: units that are none of the five, of numbers and of facts.
func TestStrangeUnits(t *testing.T) {
	for _, unit := range strangeUnits() {
		for _, n := range []api.Node{number(0, 1), number(1, 1), number(1, 2)} {
			n.Unit = unit
			refuseExpr(t, n)
		}
		refuse(t, api.ErrArg, facts(api.Decl{Name: "a", Unit: unit, Hi: 1}), facts(api.Decl{Name: "b", Hi: 1}, api.Decl{Name: "a", Unit: unit, Hi: 1}))
	}
}

// strangeNames are texts that are no names.
func strangeNames() []string {
	return append(strings.Fields(reserved), "", "A", "aB", "1", "1a", "_", "_a", "a b", " a", "a ", "a\n", "\ta", "a\r", "#", "a#", "a #x", "#x\na", "(a)", "a;", "a:", "a-b", "a.b", "not a", "a+1", "é", "aé", "a\x00", "a\xff", "\xff", "!", "a!", "1 money", "abcdefghijklmnopq", "abcdefghijklmnopqrstuvwxyz", strings.Repeat("a", 8001), strings.Repeat("(", 1000)+"a"+strings.Repeat(")", 1000), strings.Repeat("not ", 1999)+"a", strings.Repeat("a", 1<<20))
}

// P10.1: names of facts, rules and acts that are reserved words, or no words at all.
func TestStrangeNames(t *testing.T) {
	for _, text := range strangeNames() {
		if text != "" {
			refuse(t, api.ErrArg, changedRule(func(u *api.Rule) { u.Act = text }))
		}
		if n := name(text); len(text) < 10000 {
			refuseExpr(t, n)
		}
		refuse(t, api.ErrArg, facts(api.Decl{Name: text, Hi: 1}), rules(plain(text)), rules(plain("a"), plain(text)))
	}
}

// P10.1: words that are not reserved are names, also those that begin declarations, and those that reserved words begin with.
func TestNames(t *testing.T) {
	for _, word := range append(kinds(), "fact", "a", "z9_", "a_", "abcdefghijklmnop", "iff", "tru", "truer", "mi", "min1", "max_", "unit", "to_", "x") {
		expectExpr(t, map[string]api.Node{
			word:                                 name(word),
			word + " * " + word:                  node(api.OpMul, name(word), name(word)),
			"not " + word:                        not(name(word)),
			"(" + word + " or " + word + ") = 1": node(api.OpEq, node(api.OpOr, name(word), name(word)), number(1, 1)),
			"max(" + word + ", " + word + ")":    node(api.OpMax, name(word), name(word)),
		})
		expect(t, map[string]api.Codex{
			"fact " + word + ": number 1 to 2;\n":                              facts(api.Decl{Name: word, Lo: 1, Hi: 2}),
			"charge " + word + " 1 about " + word + " from 0 known 0;\n":       changedRule(func(u *api.Rule) { u.Name, u.Act = word, word }),
			"charge x 1 from 0 known 0 when " + word + " give " + word + ";\n": changedRule(func(u *api.Rule) { u.When, u.Give = name(word), name(word) }),
		})
	}
}

// every has one node for each operator, with leaves as its operands.
func every() []api.Node {
	all := []api.Node{number(1, 1), number(1, 2), cents(5), name("x"), yes()}
	for op := api.OpAdd; op <= api.OpIf; op++ {
		n := node(op)
		for i := range theShapes[op].places {
			n.Kids = append(n.Kids, name([]string{"x", "y", "z"}[i]))
		}
		all = append(all, n)
	}
	return all
}

// P10.1: nodes with too few and too many operands.
func TestNumbersOfKids(t *testing.T) {
	for _, n := range every() {
		for count := range 6 {
			n.Kids = slices.Repeat([]api.Node{yes()}, count)
			if count != len(theShapes[n.Op].places) {
				refuseExpr(t, n)
			}
		}
		n.Kids = make([]api.Node, 1<<20)
		refuseExpr(t, n)
	}
}

// P10.1: no operands, and an empty list of them, are the same.
func TestNoKids(t *testing.T) {
	for text, n := range map[string]api.Node{"1": number(1, 1), "x": name("x"), "true": yes()} {
		n.Kids = []api.Node{}
		expectExpr(t, map[string]api.Node{text: n, "not " + text: not(n)})
	}
}

// P10.1: nodes with a name, a number or a unit that they may not have.
func TestSuperfluousFields(t *testing.T) {
	for _, n := range every() {
		if n.Op != api.OpFact {
			m := n
			m.Name = "a"
			refuseExpr(t, m)
			m.Name = "true"
			refuseExpr(t, m)
		}
		if n.Op == api.OpNumber {
			continue
		}
		for _, r := range []api.Rat{{N: 0, D: 1}, {N: 1, D: 1}, {N: 1, D: 0}, {N: 0, D: -1}, {N: math.MinInt, D: 0}} {
			m := n
			m.N = r
			refuseExpr(t, m)
		}
		for _, unit := range append(strangeUnits(), api.Unit{Flag: true}, api.Unit{Money: 1}, api.Unit{Area: 1}, api.Unit{Days: 1}) {
			m := n
			m.Unit = unit
			refuseExpr(t, m)
		}
	}
}

// P10.1: operators that there are not, with any number of operands, and the zero node.
func TestStrangeOperators(t *testing.T) {
	for _, op := range []int{0, -1, 18, 19, 100, -17, 1 << 32, 1<<32 + 2, 1<<32 + 17, math.MaxInt, math.MinInt, math.MinInt + 2} {
		for count := range 4 {
			refuseExpr(t, node(op, slices.Repeat([]api.Node{yes()}, count)...))
		}
		n := name("a")
		n.Op = op
		m := number(1, 1)
		m.Op = op
		refuseExpr(t, n, m)
	}
	refuse(t, api.ErrArg, rules(api.Rule{Name: "x", Kind: 1}), changedRule(func(u *api.Rule) { u.Give = api.Node{} }), changedRule(func(u *api.Rule) { u.When = api.Node{} }))
}

// P10.1: the same for a node somewhere in a large expression: one that is not printable makes the whole not printable.
func TestOneStrangeNode(t *testing.T) {
	n := name("a")
	for i := range 18 {
		n = []api.Node{node(api.OpAdd, n, yes()), node(api.OpMin, yes(), n), not(n), node(api.OpIf, yes(), n, yes()), node(api.OpIf, n, yes(), yes()), node(api.OpDiv, name("b"), n)}[i%6]
	}
	expectExpr(t, map[string]api.Node{wantedExpr(n): n})
	for depth := range 19 {
		for _, spoil := range []func(n *api.Node){func(n *api.Node) { n.Op = 0 }, func(n *api.Node) { n.Kids = append(n.Kids, yes()) }, func(n *api.Node) { n.N.D = 1 }, func(n *api.Node) { n.Unit.Money = 2 }, func(n *api.Node) { n.Name += "A" }} {
			refuseExpr(t, spoilt(n, depth, spoil))
		}
	}
}

// spoilt is an expression of which the node at some depth, below the longest way, was changed.
func spoilt(n api.Node, depth int, spoil func(n *api.Node)) api.Node {
	n.Kids = slices.Clone(n.Kids)
	if depth == 0 {
		spoil(&n)
		return n
	}
	longest := 0
	for i, kid := range n.Kids {
		if depthOf(kid) > depthOf(n.Kids[longest]) {
			longest = i
		}
	}
	n.Kids[longest] = spoilt(n.Kids[longest], depth-1, spoil)
	return n
}

// depthOf is the depth of an expression.
func depthOf(n api.Node) int {
	depth := 0
	for _, kid := range n.Kids {
		depth = max(depth, depthOf(kid))
	}
	return depth + 1
}
