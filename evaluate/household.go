package evaluate

import "cohousing/api"

// household computes expressions by the values of its facts.
type household struct {
	facts     map[string]int
	operators map[int]operator
}

// newHousehold returns the household with some values for declarations that are right; it gives up if they are not those of a household.
func newHousehold(l []api.Decl, values []int) *household {
	need(areValues(l, values), api.ErrArg)
	h := &household{facts: map[string]int{}}
	for i, d := range l {
		h.facts[d.Name] = values[i]
	}
	h.operators = h.newOperators()
	return h
}

// areValues reports whether there is a value within its bounds for each declaration.
func areValues(l []api.Decl, values []int) bool {
	if len(values) != len(l) {
		return false
	}
	for i, d := range l {
		if values[i] < d.Lo || values[i] > d.Hi {
			return false
		}
	}
	return true
}

// value returns the value of an expression that has a unit; it gives up with its error.
func (h *household) value(n api.Node) api.Rat { return h.operators[n.Op](n) }

// holds reports whether a flag holds; it gives up with its error.
func (h *household) holds(n api.Node) bool { return h.value(n) == truth(true) }
