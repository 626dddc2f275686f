package units

import "cohousing/api"

// operator returns the unit that comes from those of its operands, and whether it takes such operands.
type operator func(operands []api.Unit) (api.Unit, bool)

// operators returns those of all nodes but numbers and facts.
func operators() map[int]operator {
	flag := api.Unit{Flag: true}
	alike := func(l []api.Unit) (api.Unit, bool) { return l[0], l[0] == l[1] && !l[0].Flag }
	equal := func(l []api.Unit) (api.Unit, bool) { return flag, l[0] == l[1] }
	order := func(l []api.Unit) (api.Unit, bool) { return flag, l[0] == l[1] && !l[0].Flag }
	logic := func(l []api.Unit) (api.Unit, bool) { return flag, areFlags(l) }
	choice := func(l []api.Unit) (api.Unit, bool) { return l[1], l[0].Flag && l[1] == l[2] }
	return map[int]operator{
		api.OpAdd:  alike,
		api.OpSub:  alike,
		api.OpMul:  product(1),
		api.OpDiv:  product(-1),
		api.OpMin:  alike,
		api.OpMax:  alike,
		api.OpEq:   equal,
		api.OpNe:   equal,
		api.OpLt:   order,
		api.OpLe:   order,
		api.OpAnd:  logic,
		api.OpOr:   logic,
		api.OpNot:  logic,
		api.OpIf:   choice,
		api.OpTrue: logic,
	}
}

// product returns the operator that multiplies by a power of its second operand.
func product(power int) operator {
	return func(l []api.Unit) (api.Unit, bool) {
		a, b := l[0], l[1]
		unit := api.Unit{Money: a.Money + power*b.Money, Area: a.Area + power*b.Area, Days: a.Days + power*b.Days}
		return unit, !a.Flag && !b.Flag && areExponents(unit.Money, unit.Area, unit.Days)
	}
}

// areFlags reports whether all units are that of flags, which is so if there are none.
func areFlags(l []api.Unit) bool {
	for _, unit := range l {
		if !unit.Flag {
			return false
		}
	}
	return true
}
