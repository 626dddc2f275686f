package evaluate

import (
	"cohousing/api"
	"cohousing/rational"
)

// operator returns the value of a node that has this operator. It computes operands itself, because not all of them count.
type operator func(n api.Node) api.Rat

// newOperators returns the operators of all nodes.
func (h *household) newOperators() map[int]operator {
	return map[int]operator{
		api.OpNumber: func(n api.Node) api.Rat { return n.N },
		api.OpFact:   func(n api.Node) api.Rat { return whole(h.facts[n.Name]) },
		api.OpTrue:   func(n api.Node) api.Rat { return truth(true) },
		api.OpAdd:    h.computed(rational.Add),
		api.OpSub:    h.computed(rational.Sub),
		api.OpMul:    h.computed(rational.Mul),
		api.OpDiv:    h.computed(rational.Div),
		api.OpMin:    h.chosen(func(order int) bool { return order < 0 }),
		api.OpMax:    h.chosen(func(order int) bool { return order > 0 }),
		api.OpEq:     h.compared(func(order int) bool { return order == 0 }),
		api.OpNe:     h.compared(func(order int) bool { return order != 0 }),
		api.OpLt:     h.compared(func(order int) bool { return order < 0 }),
		api.OpLe:     h.compared(func(order int) bool { return order <= 0 }),
		api.OpAnd:    h.both,
		api.OpOr:     h.either,
		api.OpNot:    h.opposite,
		api.OpIf:     h.branch,
	}
}

// computed returns the operator that makes a number of those of two operands.
func (h *household) computed(operation func(a, b api.Rat) (api.Rat, api.Errno)) operator {
	return func(n api.Node) api.Rat { return must(operation(h.pair(n))) }
}

// chosen returns the operator that takes the first one of two operands if their order is right, and the second one otherwise.
func (h *household) chosen(isRight func(order int) bool) operator {
	return func(n api.Node) api.Rat {
		a, b := h.pair(n)
		if isRight(must(rational.Compare(a, b))) {
			return a
		}
		return b
	}
}

// compared returns the operator that says whether the order of two operands is right.
func (h *household) compared(isRight func(order int) bool) operator {
	return func(n api.Node) api.Rat { return truth(isRight(must(rational.Compare(h.pair(n))))) }
}

// pair returns the values of both operands; that of the first one is computed first, so that its error comes first.
func (h *household) pair(n api.Node) (a, b api.Rat) {
	a = h.value(n.Kids[0])
	return a, h.value(n.Kids[1])
}

func (h *household) both(n api.Node) api.Rat {
	if !h.holds(n.Kids[0]) {
		return truth(false)
	}
	return h.value(n.Kids[1])
}

func (h *household) either(n api.Node) api.Rat {
	if h.holds(n.Kids[0]) {
		return truth(true)
	}
	return h.value(n.Kids[1])
}

func (h *household) opposite(n api.Node) api.Rat { return truth(!h.holds(n.Kids[0])) }

func (h *household) branch(n api.Node) api.Rat {
	if h.holds(n.Kids[0]) {
		return h.value(n.Kids[1])
	}
	return h.value(n.Kids[2])
}

// whole returns the number of an integer that is one of a fact, or 0 or 1.
func whole(n int) api.Rat { return api.Rat{N: n, D: 1} }

// truth returns the number of a flag.
func truth(is bool) api.Rat {
	if is {
		return whole(1)
	}
	return whole(0)
}
