package printer

import (
	"cohousing/api"
	"cohousing/parser"
	"cohousing/rational"
)

// maxWhole is the greatest integer that a number token can have.
const maxWhole = 999999999

// need gives up unless something is so.
func need(is bool) {
	if !is {
		panic(api.ErrArg)
	}
}

// checkBylaws gives up unless by-laws are printable.
func checkBylaws(c api.Codex) {
	need(len(c.Decls) <= api.MaxDecls && len(c.Rules) <= api.MaxRules)
	for _, d := range c.Decls {
		need(isName(d.Name) && unitWord(d.Unit) != "" && isWhole(d.Lo) && isWhole(d.Hi))
	}
	for _, u := range c.Rules {
		need(kindWord(u.Kind) != "" && isName(u.Name) && isWhole(u.Version) && (u.Act == "" || isName(u.Act)))
		need(isWhole(u.Days.From) && isWhole(u.Days.Until) && isWhole(u.Known))
		checkExpr(u.When)
		checkExpr(u.Give)
	}
}

// checkExpr gives up unless an expression is printable.
func checkExpr(n api.Node) {
	nodes := 0
	checkNode(n, 1, &nodes)
}

// checkNode gives up unless a node at a depth is printable with all its operands. Nodes are counted on the way down, so that this ends soon also where operands contain themselves.
func checkNode(n api.Node, depth int, nodes *int) {
	*nodes++
	need(*nodes <= api.MaxNodes && depth <= api.MaxDepth)
	need(len(n.Kids) == operatorOf(n.Op).kids && isNamed(n) && isMeasured(n))
	for _, kid := range n.Kids {
		checkNode(kid, depth+1, nodes)
	}
}

// isNamed reports whether a node has a name where it needs one, and no other one.
func isNamed(n api.Node) bool {
	if n.Op == api.OpFact {
		return isName(n.Name)
	}
	return n.Name == ""
}

// isMeasured reports whether a node has a number and a unit that can be written where it needs them, and no other ones.
func isMeasured(n api.Node) bool {
	if n.Op != api.OpNumber {
		return n.N == (api.Rat{}) && n.Unit == (api.Unit{})
	}
	whole, e := rational.Floor(n.N)
	if e != api.OK || whole < 0 {
		return false
	}
	if n.Unit == (api.Unit{Money: 1}) {
		return n.N.D == 1
	}
	return unitWord(n.Unit) != "" && 100%n.N.D == 0 && isWhole(whole)
}

// isName reports whether the parser takes a text as a name.
func isName(text string) bool {
	n, _, _ := parser.Expr(text)
	return n.Op == api.OpFact && n.Name == text
}

// isWhole reports whether an integer can be written as a number token.
func isWhole(n int) bool { return 0 <= n && n <= maxWhole }
