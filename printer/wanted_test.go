package printer_test

import (
	"fmt"
	"math/big"
	"regexp"
	"strings"

	"cohousing/api"
)

// reserved are the reserved words as the chapter of the parser has them.
const reserved = " about and area days else flag from give if known max min money not number or then to true until when "

// kinds are those of rules, in the order of their numbers.
func kinds() []string {
	return []string{"charge", "right", "duty", "ban", "rooms", "vote", "notice"}
}

// units are all units by their names.
func units() map[string]api.Unit {
	return map[string]api.Unit{"flag": {Flag: true}, "number": {}, "money": {Money: 1}, "area": {Area: 1}, "days": {Days: 1}}
}

// shape is what the chapter says of an operator: its level, what stands before, between and behind its operands, and the levels that their places ask for.
type shape struct {
	level  int
	texts  []string
	places []int
}

// shapes has the operators with operands.
func shapes() map[int]shape {
	return map[int]shape{
		api.OpIf:  {0, []string{"if ", " then ", " else ", ""}, []int{0, 0, 0}},
		api.OpOr:  {1, []string{"", " or ", ""}, []int{1, 2}},
		api.OpAnd: {2, []string{"", " and ", ""}, []int{2, 3}},
		api.OpNot: {3, []string{"not ", ""}, []int{3}},
		api.OpEq:  {4, []string{"", " = ", ""}, []int{5, 5}},
		api.OpNe:  {4, []string{"", " != ", ""}, []int{5, 5}},
		api.OpLt:  {4, []string{"", " < ", ""}, []int{5, 5}},
		api.OpLe:  {4, []string{"", " <= ", ""}, []int{5, 5}},
		api.OpAdd: {5, []string{"", " + ", ""}, []int{5, 6}},
		api.OpSub: {5, []string{"", " - ", ""}, []int{5, 6}},
		api.OpMul: {6, []string{"", " * ", ""}, []int{6, 7}},
		api.OpDiv: {6, []string{"", " / ", ""}, []int{6, 7}},
		api.OpMin: {7, []string{"min(", ", ", ")"}, []int{0, 0}},
		api.OpMax: {7, []string{"max(", ", ", ")"}, []int{0, 0}},
	}
}

// theShapes are the same in all tests.
var theShapes = shapes()

// isOperator reports whether there is such an operator with operands.
func isOperator(op int) bool { return len(theShapes[op].places) > 0 }

// levelOf is the level of a node.
func levelOf(op int) int {
	if isOperator(op) {
		return theShapes[op].level
	}
	return 7
}

// joined is the text of a node with operands; a function says which texts these have.
func joined(n api.Node, operand func(i int) string) string {
	texts := theShapes[n.Op].texts
	text := texts[0]
	for i := range n.Kids {
		text += operand(i) + texts[i+1]
	}
	return text
}

// needsBrackets reports whether an operand of a node has brackets, by the levels of the chapter.
func needsBrackets(n api.Node, i int) bool {
	return levelOf(n.Kids[i].Op) < theShapes[n.Op].places[i]
}

// wantedExpr is the text of a printable expression, by the levels of the chapter.
func wantedExpr(n api.Node) string {
	if !isOperator(n.Op) {
		return leafText(n)
	}
	return joined(n, func(i int) string {
		if needsBrackets(n, i) {
			return "(" + wantedExpr(n.Kids[i]) + ")"
		}
		return wantedExpr(n.Kids[i])
	})
}

// bracketed is the text of a printable expression with square brackets around each operand.
func bracketed(n api.Node) string {
	if !isOperator(n.Op) {
		return leafText(n)
	}
	return joined(n, func(i int) string { return "[" + bracketed(n.Kids[i]) + "]" })
}

// leafText is the text of a number, a name, or `true`.
func leafText(n api.Node) string {
	switch n.Op {
	case api.OpFact:
		return n.Name
	case api.OpTrue:
		return "true"
	}
	value := big.NewRat(int64(n.N.N), int64(n.N.D))
	if n.Unit.Money == 1 {
		value.Quo(value, big.NewRat(100, 1))
	}
	text := value.FloatString(2)
	if value.IsInt() {
		text = value.FloatString(0)
	}
	for name, unit := range units() {
		if n.Unit == unit && name != "number" {
			text += " " + name
		}
	}
	return text
}

// wantedText is the text of printable by-laws.
func wantedText(c api.Codex) string {
	var all strings.Builder
	for _, d := range c.Decls {
		for name, unit := range units() {
			if d.Unit == unit {
				fmt.Fprintf(&all, "fact %s: %s %d to %d;\n", d.Name, name, d.Lo, d.Hi)
			}
		}
	}
	for _, u := range c.Rules {
		all.WriteString(wantedRule(u))
	}
	return all.String()
}

// wantedRule is the line of a printable rule.
func wantedRule(u api.Rule) string {
	act, until, when, give := "", "", "", ""
	if u.Act != "" {
		act = " about " + u.Act
	}
	if u.Days.Until != 36525 {
		until = fmt.Sprintf(" until %d", u.Days.Until)
	}
	if text := wantedExpr(u.When); text != "true" {
		when = " when " + text
	}
	if text := wantedExpr(u.Give); text != "0" {
		give = " give " + text
	}
	return fmt.Sprintf("%s %s %d%s from %d%s known %d%s%s;\n", kinds()[u.Kind-1], u.Name, u.Version, act, u.Days.From, until, u.Known, when, give)
}

// aName is how names look, but for the reserved words.
var aName = regexp.MustCompile(`\A[a-z][a-z0-9_]{0,15}\z`)

// isName reports whether a text is a name.
func isName(text string) bool {
	return aName.MatchString(text) && !strings.Contains(reserved, " "+text+" ")
}

// isUnit reports whether a unit is one of the five.
func isUnit(u api.Unit) bool {
	for _, unit := range units() {
		if u == unit {
			return true
		}
	}
	return false
}

// isWhole reports whether integers are from 0 to 999999999.
func isWhole(all ...int) bool {
	for _, n := range all {
		if n < 0 || n > 999999999 {
			return false
		}
	}
	return true
}

// isNumber reports whether a number can be written with a unit.
func isNumber(n api.Rat, unit api.Unit) bool {
	if n.N < 0 || n.N > 1000000000 || n.D < 1 || n.D > 1000000000 || !isUnit(unit) {
		return false
	}
	isReduced := new(big.Int).GCD(nil, nil, big.NewInt(int64(n.N)), big.NewInt(int64(n.D))).Cmp(big.NewInt(1)) == 0
	if unit.Money == 1 {
		return isReduced && n.D == 1
	}
	return isReduced && 100%n.D == 0 && big.NewRat(int64(n.N), int64(n.D)).Cmp(big.NewRat(1000000000, 1)) < 0
}

// isLeaf reports whether a node without operands is printable.
func isLeaf(n api.Node) bool {
	if n.Op == api.OpNumber {
		return n.Name == "" && isNumber(n.N, n.Unit)
	}
	return n.N == api.Rat{} && n.Unit == api.Unit{} && (n.Op == api.OpFact && isName(n.Name) || n.Op == api.OpTrue && n.Name == "")
}

// isPrintable reports whether an expression is printable; layer by layer, so that it ends also where operands contain themselves.
func isPrintable(n api.Node) bool {
	layer := []api.Node{n}
	for depth, count := 1, 0; len(layer) > 0; depth++ {
		count += len(layer)
		if depth > 20 || count > 200 {
			return false
		}
		var next []api.Node
		for _, n := range layer {
			if isOperator(n.Op) && (n.Name != "" || n.N != api.Rat{} || n.Unit != api.Unit{}) || !isOperator(n.Op) && !isLeaf(n) || len(n.Kids) != len(theShapes[n.Op].places) {
				return false
			}
			next = append(next, n.Kids...)
		}
		layer = next
	}
	return true
}

// isPrintableRule reports whether a rule is printable.
func isPrintableRule(u api.Rule) bool {
	return u.Kind >= 1 && u.Kind <= 7 && isName(u.Name) && (u.Act == "" || isName(u.Act)) && isWhole(u.Version, u.Days.From, u.Days.Until, u.Known) && isPrintable(u.When) && isPrintable(u.Give)
}

// areBylaws reports whether by-laws are printable.
func areBylaws(c api.Codex) bool {
	for _, d := range c.Decls {
		if !isName(d.Name) || !isUnit(d.Unit) || !isWhole(d.Lo, d.Hi) {
			return false
		}
	}
	for _, u := range c.Rules {
		if !isPrintableRule(u) {
			return false
		}
	}
	return len(c.Decls) <= 12 && len(c.Rules) <= 100
}

// aToken is how tokens look.
var aToken = regexp.MustCompile(`[a-z][a-z0-9_]*|[0-9.]+|!=|<=|>=|[^\s]`)

// isLong reports whether a text has more bytes or tokens than the lexer takes.
func isLong(text string) bool {
	return len(text) > 8000 || len(aToken.FindAllString(text, -1)) > 2000
}

// wantedPrint is what Print should return.
func wantedPrint(c api.Codex) (string, api.Errno) {
	if !areBylaws(c) {
		return "", api.ErrArg
	}
	text := wantedText(c)
	if isLong(text) {
		return "", api.ErrLimit
	}
	return text, api.OK
}
