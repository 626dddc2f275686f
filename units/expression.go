package units

import "cohousing/api"

// scope is what units are made of in expressions: the facts that they may name, and the operators.
type scope struct {
	facts     map[string]api.Unit
	operators map[int]operator
}

// newScope returns the scope of declarations that are right.
func newScope(l []api.Decl) scope {
	facts := map[string]api.Unit{}
	for _, d := range l {
		facts[d.Name] = d.Unit
	}
	return scope{facts, operators()}
}

// unit returns the unit of an expression that is well-formed; it gives up with its first error.
func (s scope) unit(n api.Node) api.Unit {
	switch n.Op {
	case api.OpNumber:
		need(isAmount(n), api.ErrUnit, n.At)
		return n.Unit
	case api.OpFact:
		unit, is := s.facts[n.Name]
		need(is, api.ErrName, n.At)
		return unit
	}
	operands := make([]api.Unit, len(n.Kids))
	for i, kid := range n.Kids {
		operands[i] = s.unit(kid)
	}
	unit, is := s.operators[n.Op](operands)
	need(is, api.ErrUnit, n.At)
	return unit
}

// isAmount reports whether a number fits its unit: flags are no numbers, and money has no parts of cents.
func isAmount(n api.Node) bool {
	return !n.Unit.Flag && (n.Unit.Money == 0 || n.N.D == 1)
}
