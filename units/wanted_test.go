package units_test

import (
	"math/big"
	"reflect"
	"regexp"
	"slices"
	"strings"

	"cohousing/api"
)

// reserved are the reserved words as the chapter has them.
const reserved = " about from until known when give if then else or and not true min max to flag number money area days "

var aName = regexp.MustCompile(`\A[a-z][a-z0-9_]{0,15}\z`)

// isName is the definition of a name.
func isName(text string) bool {
	return aName.MatchString(text) && !strings.Contains(reserved, " "+text+" ")
}

// law says which units the operands of an operator have, and which one comes out: f is that of flags, x and y are those of quantities, u is any one; the same letter is the same unit.
type law struct{ operands, result string }

// laws are the operators of the chapter.
func laws() map[int]law {
	return map[int]law{
		api.OpNumber: {"", "itself"},
		api.OpFact:   {"", "declared"},
		api.OpTrue:   {"", "f"},
		api.OpAdd:    {"xx", "x"},
		api.OpSub:    {"xx", "x"},
		api.OpMin:    {"xx", "x"},
		api.OpMax:    {"xx", "x"},
		api.OpMul:    {"xy", "added"},
		api.OpDiv:    {"xy", "subtracted"},
		api.OpEq:     {"uu", "f"},
		api.OpNe:     {"uu", "f"},
		api.OpLt:     {"xx", "f"},
		api.OpLe:     {"xx", "f"},
		api.OpAnd:    {"ff", "f"},
		api.OpOr:     {"ff", "f"},
		api.OpNot:    {"f", "f"},
		api.OpIf:     {"fuu", "u"},
	}
}

// theLaws are the same in all tests.
var theLaws = laws()

// postfix has the nodes of an expression, each one behind its operands.
func postfix(n api.Node) []api.Node {
	var all []api.Node
	for _, kid := range n.Kids {
		all = append(all, postfix(kid)...)
	}
	return append(all, n)
}

// depthOf is the depth of an expression.
func depthOf(n api.Node) int {
	depth := 0
	for _, kid := range n.Kids {
		depth = max(depth, depthOf(kid))
	}
	return depth + 1
}

// isNumber is the definition of a valid number from 0 on.
func isNumber(r api.Rat) bool {
	if r.N < 0 || r.N > 1000000000 || r.D < 1 || r.D > 1000000000 {
		return false
	}
	return big.NewRat(int64(r.N), int64(r.D)).Denom().Int64() == int64(r.D)
}

// isFormedNode takes away what a node may have, and looks whether something is left.
func isFormedNode(n api.Node) bool {
	o, is := theLaws[n.Op]
	if !is || len(n.Kids) != len(o.operands) {
		return false
	}
	rest := n
	rest.Op, rest.At, rest.Kids = 0, 0, nil
	switch n.Op {
	case api.OpNumber:
		if !isNumber(n.N) || !slices.Contains(basic(), n.Unit) {
			return false
		}
		rest.N, rest.Unit = api.Rat{}, api.Unit{}
	case api.OpFact:
		if !isName(n.Name) {
			return false
		}
		rest.Name = ""
	}
	return reflect.DeepEqual(rest, api.Node{})
}

// isFormed is the definition of an expression that is well-formed.
func isFormed(n api.Node) bool {
	all := postfix(n)
	return len(all) <= 200 && depthOf(n) <= 20 && !slices.ContainsFunc(all, func(m api.Node) bool { return !isFormedNode(m) })
}

// areFormed is the definition of declarations that are well-formed.
func areFormed(l []api.Decl) bool {
	return len(l) <= 12 && !slices.ContainsFunc(l, func(d api.Decl) bool { return !isName(d.Name) || !slices.Contains(basic(), d.Unit) })
}

// areRight is the definition of declarations that are right.
func areRight(l []api.Decl) bool {
	names, product := map[string]bool{}, big.NewInt(1)
	for _, d := range l {
		names[d.Name] = true
		if !isRightlyBounded(d) {
			return false
		}
		product.Mul(product, big.NewInt(int64(d.Hi-d.Lo+1)))
	}
	return areFormed(l) && len(names) == len(l) && product.Cmp(big.NewInt(4096)) <= 0
}

// isRightlyBounded is the definition of right bounds.
func isRightlyBounded(d api.Decl) bool {
	return d.Lo >= 0 && d.Hi >= d.Lo && d.Hi <= 1000000 && (!d.Unit.Flag || d.Hi <= 1)
}

// shifted is the unit of a product, with b to a power.
func shifted(a, b api.Unit, power int) api.Unit {
	return api.Unit{Money: a.Money + power*b.Money, Area: a.Area + power*b.Area, Days: a.Days + power*b.Days}
}

// hasBounds is whether each exponent is from -3 to 3.
func hasBounds(u api.Unit) bool {
	all := []int{u.Money, u.Area, u.Days}
	return slices.Min(all) >= -3 && slices.Max(all) <= 3
}

// combined is the unit that comes from those of the operands by a law, and whether there is one.
func combined(o law, operands []api.Unit) (api.Unit, bool) {
	bound := map[byte]api.Unit{'f': flag}
	for i, unit := range operands {
		letter := o.operands[i]
		if known, is := bound[letter]; is && known != unit || letter != 'f' && letter != 'u' && unit.Flag {
			return pure, false
		}
		bound[letter] = unit
	}
	switch o.result {
	case "added":
		unit := shifted(bound['x'], bound['y'], 1)
		return unit, hasBounds(unit)
	case "subtracted":
		unit := shifted(bound['x'], bound['y'], -1)
		return unit, hasBounds(unit)
	}
	return bound[o.result[0]], true
}

// wantedNode is the unit of a node by those of its operands, or its error.
func wantedNode(l []api.Decl, n api.Node, operands []api.Unit) (api.Unit, api.Errno) {
	switch n.Op {
	case api.OpNumber:
		if n.Unit == flag || n.Unit == money && n.N.D > 1 {
			return pure, api.ErrUnit
		}
		return n.Unit, api.OK
	case api.OpFact:
		i := slices.IndexFunc(l, func(d api.Decl) bool { return d.Name == n.Name })
		if i < 0 {
			return pure, api.ErrName
		}
		return l[i].Unit, api.OK
	}
	if unit, is := combined(theLaws[n.Op], operands); is {
		return unit, api.OK
	}
	return pure, api.ErrUnit
}

// wantedUnit is the unit of a well-formed expression, or its first error: the nodes are taken in postfix order, and their units are kept on a stack.
func wantedUnit(l []api.Decl, n api.Node) (api.Unit, api.Errno, int) {
	var stack []api.Unit
	for _, m := range postfix(n) {
		rest := len(stack) - len(m.Kids)
		unit, e := wantedNode(l, m, stack[rest:])
		if e != api.OK {
			return pure, e, m.At
		}
		stack = append(stack[:rest], unit)
	}
	return stack[0], api.OK, 0
}

// wantedOf is what Of returns.
func wantedOf(l []api.Decl, n api.Node) (api.Unit, api.Errno, int) {
	if !areRight(l) || !isFormed(n) {
		return pure, api.ErrArg, 0
	}
	return wantedUnit(l, n)
}

// isFormedRule is the definition of a rule of by-laws that are well-formed.
func isFormedRule(u api.Rule) bool {
	return isName(u.Name) && slices.Contains(kinds(), u.Kind) && (u.Act == "" || isName(u.Act)) && isFormed(u.When) && isFormed(u.Give)
}

// wantedFact is the error of a declaration.
func wantedFact(earlier []api.Decl, d api.Decl) api.Errno {
	product := big.NewInt(1)
	for _, other := range append(slices.Clone(earlier), d) {
		if isRightlyBounded(other) {
			product.Mul(product, big.NewInt(int64(other.Hi-other.Lo+1)))
		}
	}
	switch {
	case slices.ContainsFunc(earlier, func(other api.Decl) bool { return other.Name == d.Name }):
		return api.ErrTwice
	case !isRightlyBounded(d):
		return api.ErrRange
	case product.Cmp(big.NewInt(4096)) > 0:
		return api.ErrLimit
	}
	return api.OK
}

// wantedHead is the error of a rule beside its expressions: points 1 to 4.
func wantedHead(all []api.Rule, u api.Rule) api.Errno {
	var earlier []api.Rule
	for _, other := range all {
		if other.Name == u.Name {
			earlier = append(earlier, other)
		}
	}
	if u.Version < 1 || u.Version > 999 || u.Days.From < 0 || u.Days.From >= u.Days.Until || u.Days.Until > 36525 || u.Known < 0 || u.Known > 36524 {
		return api.ErrRange
	}
	for _, other := range earlier {
		if other.Version == u.Version {
			return api.ErrTwice
		}
	}
	for _, other := range earlier {
		if other.Kind != u.Kind || other.Act != u.Act {
			return api.ErrScope
		}
	}
	if (plain(u.Kind).Act == "") != (u.Act == "") {
		return api.ErrScope
	}
	last := api.Rule{Version: 0, Known: 0}
	if len(earlier) > 0 {
		last = earlier[len(earlier)-1]
	}
	if u.Version != last.Version+1 || u.Known < last.Known {
		return api.ErrState
	}
	return api.OK
}

// wantedRule is the error of a rule behind other ones, if it has one.
func wantedRule(l []api.Decl, all []api.Rule, u api.Rule) (api.Diag, bool) {
	if e := wantedHead(all, u); e != api.OK {
		return api.Diag{At: u.At, E: e}, true
	}
	unit, e, at := wantedUnit(l, u.When)
	if e == api.OK && unit != flag {
		e, at = api.ErrUnit, u.When.At
	}
	if e != api.OK {
		return api.Diag{At: at, E: e}, true
	}
	unit, e, at = wantedUnit(l, u.Give)
	isWork := u.Kind == api.RuleDuty || u.Kind == api.RuleBan
	if e == api.OK && isWork && !reflect.DeepEqual([]any{u.Give.Op, u.Give.N, u.Give.Unit}, []any{api.OpNumber, api.Rat{N: 0, D: 1}, pure}) {
		e, at = api.ErrScope, u.Give.At
	}
	if e == api.OK && !isWork && unit != plain(u.Kind).Give.Unit {
		e, at = api.ErrUnit, u.Give.At
	}
	return api.Diag{At: at, E: e}, e != api.OK
}

// wantedCheck is what Check returns.
func wantedCheck(c api.Codex) []api.Diag {
	if !areFormed(c.Decls) || len(c.Rules) > 100 || slices.ContainsFunc(c.Rules, func(u api.Rule) bool { return !isFormedRule(u) }) {
		return []api.Diag{malformed()}
	}
	var all []api.Diag
	for i, d := range c.Decls {
		if e := wantedFact(c.Decls[:i], d); e != api.OK {
			all = append(all, api.Diag{At: d.At, E: e})
		}
	}
	if len(all) > 0 {
		return all
	}
	for i, u := range c.Rules {
		if d, is := wantedRule(c.Decls, c.Rules[:i], u); is && len(all) < 20 {
			all = append(all, d)
		}
	}
	return all
}
