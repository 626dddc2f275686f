package parser

import "cohousing/api"

// Levels of operators, as the lines of the grammar; 0 is that of what is no operator.
const (
	orLevel = iota + 1
	andLevel
	comparisonLevel
	sumLevel
	termLevel
	callLevel
)

// operator is one with two operands; they are exchanged where there is no node of its own for it.
type operator struct {
	level, op   int
	isExchanged bool
}

// operators returns the operators with two operands by their words and signs.
func operators() map[string]operator {
	return map[string]operator{
		"or":  {level: orLevel, op: api.OpOr},
		"and": {level: andLevel, op: api.OpAnd},
		"=":   {level: comparisonLevel, op: api.OpEq},
		"!=":  {level: comparisonLevel, op: api.OpNe},
		"<":   {level: comparisonLevel, op: api.OpLt},
		"<=":  {level: comparisonLevel, op: api.OpLe},
		">":   {level: comparisonLevel, op: api.OpLt, isExchanged: true},
		">=":  {level: comparisonLevel, op: api.OpLe, isExchanged: true},
		"+":   {level: sumLevel, op: api.OpAdd},
		"-":   {level: sumLevel, op: api.OpSub},
		"*":   {level: termLevel, op: api.OpMul},
		"/":   {level: termLevel, op: api.OpDiv},
		"min": {level: callLevel, op: api.OpMin},
		"max": {level: callLevel, op: api.OpMax},
	}
}

// node returns the node of an operator with its operands, in the order of the source.
func (o operator) node(at int, a, b api.Node) api.Node {
	if o.isExchanged {
		a, b = b, a
	}
	return api.Node{Op: o.op, At: at, Kids: []api.Node{a, b}}
}

// operator passes the next token if it is an operator of a level.
func (r *reader) operator(level int) (o operator, is bool) {
	o = r.operators[r.peek().Text]
	if o.level != level {
		return operator{}, false
	}
	r.next++
	return o, true
}
