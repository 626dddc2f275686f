package parser

import (
	"cohousing/api"
	"cohousing/rational"
)

// single reads an expression behind which there is nothing; only then it is held against the limits.
func (r *reader) single() api.Node {
	n := r.expr()
	if !r.isAtEnd() {
		r.refuse()
	}
	hold(n)
	return n
}

// limited reads an expression that is part of a rule.
func (r *reader) limited() api.Node {
	n := r.expr()
	hold(n)
	return n
}

// hold gives up if an expression is too large.
func hold(n api.Node) {
	if size, depth := measure(n); size > api.MaxNodes || depth > api.MaxDepth {
		fail(api.ErrLimit, n.At)
	}
}

// measure returns how many nodes an expression has, and its depth.
func measure(n api.Node) (size, depth int) {
	for _, kid := range n.Kids {
		s, d := measure(kid)
		size, depth = size+s, max(depth, d)
	}
	return size + 1, depth + 1
}

// expr reads an expression of any level.
func (r *reader) expr() api.Node {
	at := r.peek().At
	if !r.passes("if") {
		return r.or()
	}
	condition := r.expr()
	r.need("then")
	yes := r.expr()
	r.need("else")
	return api.Node{Op: api.OpIf, At: at, Kids: []api.Node{condition, yes, r.expr()}}
}

func (r *reader) or() api.Node { return r.row(orLevel, r.and) }

func (r *reader) and() api.Node { return r.row(andLevel, r.not) }

func (r *reader) not() api.Node {
	at := r.peek().At
	if !r.passes("not") {
		return r.comparison()
	}
	return api.Node{Op: api.OpNot, At: at, Kids: []api.Node{r.not()}}
}

// comparison reads a comparison, behind which there is no other one.
func (r *reader) comparison() api.Node {
	at, left := r.peek().At, r.sum()
	if o, is := r.operator(comparisonLevel); is {
		return o.node(at, left, r.sum())
	}
	return left
}

func (r *reader) sum() api.Node { return r.row(sumLevel, r.term) }

func (r *reader) term() api.Node { return r.row(termLevel, r.factor) }

// row reads operands with operators of one level between them, and combines them from the left.
func (r *reader) row(level int, operand func() api.Node) api.Node {
	at, left := r.peek().At, operand()
	for {
		o, is := r.operator(level)
		if !is {
			return left
		}
		left = o.node(at, left, operand())
	}
}

func (r *reader) factor() api.Node {
	t := r.peek()
	if t.Kind == api.TokNumber {
		return r.number()
	}
	if r.passes("(") {
		n := r.expr()
		r.need(")")
		return n
	}
	if r.passes("true") {
		return api.Node{Op: api.OpTrue, At: t.At}
	}
	if o, is := r.operator(callLevel); is {
		return r.call(t.At, o)
	}
	return api.Node{Op: api.OpFact, At: t.At, Name: r.name()}
}

// call reads both operands of an operator that stands before them.
func (r *reader) call(at int, o operator) api.Node {
	r.need("(")
	a := r.expr()
	r.need(",")
	b := r.expr()
	r.need(")")
	return o.node(at, a, b)
}

// number reads a number with its unit; the next token is a number.
func (r *reader) number() api.Node {
	t := r.peek()
	r.next++
	n := api.Node{Op: api.OpNumber, At: t.At, N: t.N}
	if _, is := unitOf(r.peek().Text); is {
		n.Unit = r.unit()
	}
	if n.Unit.Money == 1 {
		n.N = cents(t)
	}
	return n
}

// cents returns the number of cents that a token with a number of money has.
func cents(t api.Token) api.Rat {
	n, e := rational.Mul(t.N, api.Rat{N: 100, D: 1})
	if e != api.OK {
		fail(api.ErrRange, t.At)
	}
	return n
}
