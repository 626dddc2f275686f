package printer

import "cohousing/api"

// Levels of nodes. The place of an operand asks for a level; where that of the operand is less, there are brackets.
const (
	choiceLevel = iota
	orLevel
	andLevel
	notLevel
	comparisonLevel
	sumLevel
	termLevel
	factorLevel
)

// operator is what the nodes of one kind have in common: how many operands they have, their level, and, where there are two operands, the sign of the operator.
type operator struct {
	kids, level int
	sign        string
}

// operatorOf returns the operator of a kind of nodes; it gives up if this kind is missing.
func operatorOf(op int) operator {
	switch op {
	case api.OpNumber, api.OpFact, api.OpTrue:
		return operator{0, factorLevel, ""}
	case api.OpNot:
		return operator{1, notLevel, ""}
	case api.OpIf:
		return operator{3, choiceLevel, ""}
	case api.OpMin:
		return operator{2, factorLevel, "min"}
	case api.OpMax:
		return operator{2, factorLevel, "max"}
	case api.OpOr:
		return operator{2, orLevel, "or"}
	case api.OpAnd:
		return operator{2, andLevel, "and"}
	case api.OpEq:
		return operator{2, comparisonLevel, "="}
	case api.OpNe:
		return operator{2, comparisonLevel, "!="}
	case api.OpLt:
		return operator{2, comparisonLevel, "<"}
	case api.OpLe:
		return operator{2, comparisonLevel, "<="}
	case api.OpAdd:
		return operator{2, sumLevel, "+"}
	case api.OpSub:
		return operator{2, sumLevel, "-"}
	case api.OpMul:
		return operator{2, termLevel, "*"}
	case api.OpDiv:
		return operator{2, termLevel, "/"}
	}
	panic(api.ErrArg)
}

// left returns the level that the place of the left one of two operands asks for: operators of one level stand in a row, but for comparisons.
func (o operator) left() int {
	if o.level == comparisonLevel {
		return o.right()
	}
	return o.level
}

// right returns the level that the place of the right one of two operands asks for.
func (o operator) right() int { return o.level + 1 }
