package printer_test

import (
	"math/rand/v2"
	"strings"

	"cohousing/api"
)

// dice are random numbers that are the same each time.
func dice() *rand.Rand { return rand.New(rand.NewPCG(10, 30)) }

// pick is one of some things.
func pick[T any](r *rand.Rand, all ...T) T { return all[r.IntN(len(all))] }

// anyName is a name; some of them are kinds of rules, or `fact`.
func anyName(r *rand.Rand) string {
	return pick(r, "a", "b", "c", "x_1", "persons", "fact", "charge", "ban", "rooms", "abcdefghijklmnop", "truer", "min1")
}

// anyUnit is the name of a unit.
func anyUnit(r *rand.Rand) string {
	return pick(r, "flag", "number", "number", "money", "area", "days")
}

// anyNumber is a number with any unit.
func anyNumber(r *rand.Rand) api.Node {
	unit := anyUnit(r)
	if unit == "money" {
		return cents(pick(r, 0, 1, 9, 10, 50, 99, 100, 101, 1250, 999999999, 1000000000, r.IntN(1000000000)))
	}
	value := pick(r, api.Rat{N: 0, D: 1}, api.Rat{N: 1, D: 1}, api.Rat{N: 999999999, D: 1}, api.Rat{N: 1, D: 2}, api.Rat{N: 5, D: 4}, api.Rat{N: 1, D: 100}, api.Rat{N: 617, D: 50}, api.Rat{N: 999999999, D: 100}, api.Rat{N: 999999999, D: 2}, api.Rat{N: r.IntN(1000000000), D: 1}, api.Rat{N: 1 + 2*r.IntN(499999999), D: 4}, api.Rat{N: 1 + 10*r.IntN(99999999), D: 20})
	return of(unit, number(value.N, value.D))
}

// anyTree is a printable tree of nodes of up to a depth, if it is not too large.
func anyTree(r *rand.Rand, depth int) api.Node {
	op := 1 + r.IntN(17)
	if depth == 1 {
		op = pick(r, api.OpNumber, api.OpFact, api.OpTrue)
	}
	switch op {
	case api.OpNumber:
		return anyNumber(r)
	case api.OpFact:
		return name(anyName(r))
	}
	n := node(op)
	for range theShapes[op].places {
		n.Kids = append(n.Kids, anyTree(r, depth-1))
	}
	return n
}

// deepTree is a tree of a depth in which all nodes but those on one way are leaves.
func deepTree(r *rand.Rand, depth int) api.Node {
	if depth == 1 {
		return anyTree(r, 1)
	}
	n := node(api.OpAdd + r.IntN(14))
	places := len(theShapes[n.Op].places)
	deepest := r.IntN(places)
	for i := range places {
		if i == deepest {
			n.Kids = append(n.Kids, deepTree(r, depth-1))
		} else {
			n.Kids = append(n.Kids, anyTree(r, 1))
		}
	}
	return n
}

// size is how many nodes an expression has.
func size(n api.Node) int {
	count := 1
	for _, kid := range n.Kids {
		count += size(kid)
	}
	return count
}

// trees calls a function with trees that are not too large, wide ones and deep ones.
func trees(do func(n api.Node)) {
	r := dice()
	for i := range 6000 {
		if n := anyTree(r, 1+i%9); size(n) <= 200 {
			do(n)
		}
		do(deepTree(r, 1+i%20))
	}
}

// anyExpr is a printable expression of up to a depth.
func anyExpr(r *rand.Rand, depth int) api.Node {
	for {
		if n := anyTree(r, 1+r.IntN(depth)); size(n) <= 200 {
			return n
		}
	}
}

// anyWhole is a number from 0 to 999999999.
func anyWhole(r *rand.Rand) int {
	return pick(r, 0, 1, 7, 36524, 36525, 36526, 999999999, r.IntN(1000000000))
}

// anyFact is a printable fact.
func anyFact(r *rand.Rand) api.Decl {
	return api.Decl{Name: anyName(r), Unit: units()[anyUnit(r)], Lo: anyWhole(r), Hi: anyWhole(r)}
}

// anyRule is a printable rule with expressions of up to a depth.
func anyRule(r *rand.Rand, depth int) api.Rule {
	u := api.Rule{Name: anyName(r), Version: anyWhole(r), Kind: 1 + r.IntN(7), Act: pick(r, "", anyName(r)), Days: api.Span{From: anyWhole(r), Until: pick(r, 36525, anyWhole(r))}, Known: anyWhole(r)}
	u.When, u.Give = anyExpr(r, depth), anyExpr(r, depth)
	if r.IntN(3) == 0 {
		u.When = yes()
	}
	if r.IntN(3) == 0 {
		u.Give = number(0, 1)
	}
	return u
}

// anyBylaws are printable by-laws with up to some facts and rules.
func anyBylaws(r *rand.Rand, facts, rules, depth int) api.Codex {
	var c api.Codex
	for range r.IntN(facts + 1) {
		c.Decls = append(c.Decls, anyFact(r))
	}
	for range r.IntN(rules + 1) {
		c.Rules = append(c.Rules, anyRule(r, depth))
	}
	return c
}

// bylaws calls a function with printable by-laws, most of which are not too long.
func bylaws(do func(r *rand.Rand, c api.Codex)) {
	r := dice()
	for i := range 2000 {
		do(r, anyBylaws(r, 3, 4, 1+i%6))
	}
	for range 200 {
		do(r, anyBylaws(r, 12, 100, 2))
		do(r, anyBylaws(r, 12, 100, 5))
	}
}

// gap is a gap between two tokens.
func gap(r *rand.Rand) string {
	return pick(r, " ", " ", " ", "\n", "\t", "\r\n", "   ", " #\n", " # x ;\n", "#\xff(\n ")
}

// placed is a text with other gaps between its tokens, some of which may not be there.
func placed(r *rand.Rand, text string) string {
	var source strings.Builder
	for i, token := range aToken.FindAllString(text, -1) {
		if i > 0 && (r.IntN(3) == 0 || !strings.Contains("();,:+*/", token)) {
			source.WriteString(gap(r))
		}
		source.WriteString(token)
	}
	return source.String()
}

// looseNumber is the source of a number with its unit, with zeros and a unit that could be left out.
func looseNumber(r *rand.Rand, n api.Node) string {
	number, unit, _ := strings.Cut(leafText(n), " ")
	whole, fraction, isPointed := strings.Cut(number, ".")
	if len(whole) < 9 && r.IntN(3) == 0 {
		whole = "0" + whole
	}
	if isPointed {
		whole += "." + pick(r, fraction, strings.TrimSuffix(fraction, "0"))
	} else if r.IntN(3) == 0 {
		whole += pick(r, ".0", ".00")
	}
	if unit == "" && r.IntN(3) == 0 {
		unit = "number"
	}
	return whole + " " + unit
}

// loose is a source of an expression with brackets that could be left out, with > and >=, and with other ways to write a number.
func loose(r *rand.Rand, n api.Node) string {
	operand := func(i int) string {
		text := loose(r, n.Kids[i])
		if needsBrackets(n, i) || r.IntN(4) == 0 {
			return "(" + text + ")"
		}
		return text
	}
	switch {
	case n.Op == api.OpNumber:
		return looseNumber(r, n)
	case n.Op == api.OpLt && r.IntN(2) == 0:
		return operand(1) + " > " + operand(0)
	case n.Op == api.OpLe && r.IntN(2) == 0:
		return operand(1) + " >= " + operand(0)
	case isOperator(n.Op):
		return joined(n, operand)
	}
	return leafText(n)
}

// looseWhole is a source of a whole number.
func looseWhole(r *rand.Rand, n int) string {
	return strings.TrimSuffix(looseNumber(r, number(n, 1)), "number")
}

// looseFact is a source of a fact.
func looseFact(r *rand.Rand, d api.Decl) string {
	for name, unit := range units() {
		if d.Unit == unit {
			return placed(r, "fact "+d.Name+": "+name+" "+looseWhole(r, d.Lo)+" to "+looseWhole(r, d.Hi)+";")
		}
	}
	return ""
}

// looseRule is a source of a rule, with parts that could be left out.
func looseRule(r *rand.Rand, u api.Rule) string {
	text := kinds()[u.Kind-1] + " " + u.Name + " " + looseWhole(r, u.Version)
	if u.Act != "" {
		text += " about " + u.Act
	}
	text += " from " + looseWhole(r, u.Days.From)
	if u.Days.Until != 36525 || r.IntN(2) == 0 {
		text += " until " + looseWhole(r, u.Days.Until)
	}
	text += " known " + looseWhole(r, u.Known)
	if wantedExpr(u.When) != "true" || r.IntN(2) == 0 {
		text += " when " + loose(r, u.When)
	}
	if wantedExpr(u.Give) != "0" || r.IntN(2) == 0 {
		text += " give " + loose(r, u.Give)
	}
	return placed(r, text+";")
}

// looseBylaws is a source of by-laws in which facts and rules are in any order.
func looseBylaws(r *rand.Rand, c api.Codex) string {
	var source strings.Builder
	facts, rules := c.Decls, c.Rules
	for len(facts)+len(rules) > 0 {
		if len(rules) == 0 || len(facts) > 0 && r.IntN(2) == 0 {
			source.WriteString(looseFact(r, facts[0]) + gap(r))
			facts = facts[1:]
		} else {
			source.WriteString(looseRule(r, rules[0]) + gap(r))
			rules = rules[1:]
		}
	}
	return source.String()
}
