package printer

import (
	"strconv"

	"cohousing/api"
)

// node writes an expression that is printable.
func (t *text) node(n api.Node) {
	switch n.Op {
	case api.OpNumber:
		t.number(n)
	case api.OpFact:
		t.add(n.Name)
	case api.OpTrue:
		t.add("true")
	case api.OpNot:
		t.add("not")
		t.operand(n.Kids[0], notLevel)
	case api.OpIf:
		t.choice(n.Kids)
	case api.OpMin, api.OpMax:
		t.call(operatorOf(n.Op), n.Kids)
	default:
		t.pair(operatorOf(n.Op), n.Kids)
	}
}

// operand writes an operand at a place that asks for a level.
func (t *text) operand(n api.Node, level int) {
	if operatorOf(n.Op).level >= level {
		t.node(n)
		return
	}
	t.add("(")
	t.node(n)
	t.add(")")
}

// choice writes what is chosen by a condition.
func (t *text) choice(kids []api.Node) {
	for i, word := range [...]string{"if", "then", "else"} {
		t.add(word)
		t.operand(kids[i], choiceLevel)
	}
}

// call writes an operator that stands before its operands, which have brackets of their own.
func (t *text) call(o operator, kids []api.Node) {
	t.add(o.sign, "(")
	t.operand(kids[0], choiceLevel)
	t.add(",")
	t.operand(kids[1], choiceLevel)
	t.add(")")
}

// pair writes an operator that stands between its operands.
func (t *text) pair(o operator, kids []api.Node) {
	t.operand(kids[0], o.left())
	t.add(o.sign)
	t.operand(kids[1], o.right())
}

// number writes a number with its unit.
func (t *text) number(n api.Node) {
	t.add(decimal(hundredths(n)))
	if n.Unit != (api.Unit{}) {
		t.add(unitWord(n.Unit))
	}
}

// hundredths returns 100 times the number that is written for a node: with the unit `money` this is the number of cents that the node has.
func hundredths(n api.Node) int {
	if n.Unit == (api.Unit{Money: 1}) {
		return n.N.N
	}
	return n.N.N * (100 / n.N.D)
}

// decimal returns the digits of a number of hundredths.
func decimal(hundredths int) string {
	whole, rest := strconv.Itoa(hundredths/100), hundredths%100
	if rest == 0 {
		return whole
	}
	return whole + "." + strconv.Itoa(rest/10) + strconv.Itoa(rest%10)
}
