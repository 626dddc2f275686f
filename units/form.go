package units

import (
	"cohousing/api"
	"cohousing/rational"
)

// areBylaws reports whether by-laws are well-formed.
func areBylaws(c api.Codex) bool {
	if !areFacts(c.Decls) || len(c.Rules) > api.MaxRules {
		return false
	}
	for _, u := range c.Rules {
		if !isRule(u) {
			return false
		}
	}
	return true
}

// areFacts reports whether declarations are well-formed.
func areFacts(l []api.Decl) bool {
	if len(l) > api.MaxDecls {
		return false
	}
	for _, d := range l {
		if !isName(d.Name) || !isBasic(d.Unit) {
			return false
		}
	}
	return true
}

// isRule reports whether a rule may be part of by-laws that are well-formed.
func isRule(u api.Rule) bool {
	isKind := api.RuleCharge <= u.Kind && u.Kind <= api.RuleNotice
	return isKind && isName(u.Name) && (u.Act == "" || isName(u.Act)) && isExpr(u.When) && isExpr(u.Give)
}

// isExpr reports whether an expression is well-formed.
func isExpr(n api.Node) bool {
	nodes := 0
	return isTree(n, 1, &nodes)
}

// isTree reports whether a node at a depth is well-formed with all its operands. Nodes are counted on the way down, so that this ends soon also where operands contain themselves.
func isTree(n api.Node, depth int, nodes *int) bool {
	*nodes++
	if *nodes > api.MaxNodes || depth > api.MaxDepth || !isNode(n) {
		return false
	}
	for _, kid := range n.Kids {
		if !isTree(kid, depth+1, nodes) {
			return false
		}
	}
	return true
}

// isNode reports whether a node has the fields of its operator, and no other ones; its operands are counted alone.
func isNode(n api.Node) bool {
	isNamed := n.Name == ""
	isMeasured := n.N == (api.Rat{}) && n.Unit == (api.Unit{})
	kids := 0
	switch n.Op {
	case api.OpNumber:
		isMeasured = rational.Valid(n.N) && n.N.N >= 0 && isBasic(n.Unit)
	case api.OpFact:
		isNamed = isName(n.Name)
	case api.OpTrue:
	case api.OpNot:
		kids = 1
	case api.OpIf:
		kids = 3
	default:
		if n.Op < api.OpAdd || n.Op > api.OpOr {
			return false
		}
		kids = 2
	}
	return isNamed && isMeasured && len(n.Kids) == kids
}
