package evaluate_test

import (
	"math/big"
	"slices"

	"cohousing/api"
	"cohousing/units"
)

// result is what comes of an expression: a number, or an error.
type result struct {
	n *big.Rat
	e api.Errno
}

func integer(n int) result { return result{big.NewRat(int64(n), 1), api.OK} }

func flagResult(is bool) result {
	if is {
		return integer(1)
	}
	return integer(0)
}

// isYes reports whether a result is a flag that holds.
func (a result) isYes() bool { return a.e == api.OK && a.n.Cmp(big.NewRat(1, 1)) == 0 }

// bounded is a number, if layer 1 has it.
func bounded(n *big.Rat) result {
	most := big.NewInt(1000000000)
	if new(big.Int).Abs(n.Num()).Cmp(most) > 0 || n.Denom().Cmp(most) > 0 {
		return result{nil, api.ErrRange}
	}
	return result{n, api.OK}
}

// firstError is the first error of operands, if there is one.
func firstError(operands []result) api.Errno {
	for _, a := range operands {
		if a.e != api.OK {
			return a.e
		}
	}
	return api.OK
}

// strict is the result of an operator that looks at both of its operands.
func strict(op int, a, b *big.Rat) result {
	order := a.Cmp(b)
	switch op {
	case api.OpAdd:
		return bounded(new(big.Rat).Add(a, b))
	case api.OpSub:
		return bounded(new(big.Rat).Sub(a, b))
	case api.OpMul:
		return bounded(new(big.Rat).Mul(a, b))
	case api.OpDiv:
		if b.Sign() == 0 {
			return result{nil, api.ErrZero}
		}
		return bounded(new(big.Rat).Quo(a, b))
	case api.OpMin, api.OpMax:
		if (op == api.OpMin) == (order < 0) {
			return result{a, api.OK}
		}
		return result{b, api.OK}
	case api.OpEq:
		return flagResult(order == 0)
	case api.OpNe:
		return flagResult(order != 0)
	case api.OpLt:
		return flagResult(order < 0)
	case api.OpLe:
		return flagResult(order <= 0)
	}
	panic(op)
}

// combined is the result of a node by those of all its operands, which are all computed beforehand.
func combined(op int, operands []result) result {
	first := operands[0]
	switch {
	case first.e != api.OK:
		return first
	case op == api.OpNot:
		return flagResult(!first.isYes())
	case op == api.OpIf && first.isYes(), op == api.OpAnd && first.isYes(), op == api.OpOr && !first.isYes():
		return operands[1]
	case op == api.OpIf:
		return operands[2]
	case op == api.OpAnd, op == api.OpOr:
		return first
	case firstError(operands) != api.OK:
		return result{nil, firstError(operands)}
	}
	return strict(op, first.n, operands[1].n)
}

// computed is the result of an expression that has a unit.
func computed(l []api.Decl, n api.Node, values []int) result {
	switch n.Op {
	case api.OpNumber:
		return result{big.NewRat(int64(n.N.N), int64(n.N.D)), api.OK}
	case api.OpFact:
		return integer(values[slices.IndexFunc(l, func(d api.Decl) bool { return d.Name == n.Name })])
	case api.OpTrue:
		return integer(1)
	}
	var operands []result
	for _, kid := range n.Kids {
		operands = append(operands, computed(l, kid, values))
	}
	return combined(n.Op, operands)
}

// wantedFits is what Fits returns.
func wantedFits(l []api.Decl, values []int) bool {
	is := units.Valid(l, api.Node{Op: api.OpTrue}) && len(l) == len(values)
	for i := 0; is && i < len(l); i++ {
		is = l[i].Lo <= values[i] && values[i] <= l[i].Hi
	}
	return is
}

// wantedValue is what Value returns.
func wantedValue(l []api.Decl, n api.Node, values []int) (api.Rat, api.Errno) {
	if _, e, _ := units.Of(l, n); e != api.OK || !wantedFits(l, values) {
		return api.Rat{}, api.ErrArg
	}
	a := computed(l, n, values)
	if a.e != api.OK {
		return api.Rat{}, a.e
	}
	return api.Rat{N: int(a.n.Num().Int64()), D: int(a.n.Denom().Int64())}, api.OK
}

// isInForce is the definition of a rule that is in force.
func isInForce(all []api.Rule, r api.Rule, day, known int) bool {
	has := func(r api.Rule) bool { return r.Known <= known && r.Days.From <= day && day < r.Days.Until }
	return has(r) && !slices.ContainsFunc(all, func(other api.Rule) bool {
		return other.Name == r.Name && other.Version > r.Version && has(other)
	})
}

// wantedForce is what codex.Force returns.
func wantedForce(c api.Codex, day, known int) ([]int, api.Errno) {
	if len(units.Check(c)) > 0 {
		return nil, api.ErrArg
	}
	if day < 0 || day > 36524 || known < 0 || known > 36524 {
		return nil, api.ErrRange
	}
	var all []int
	for i, r := range c.Rules {
		if isInForce(c.Rules, r, day, known) {
			all = append(all, i)
		}
	}
	return all, api.OK
}

// wantedHolds is what Holds returns.
func wantedHolds(c api.Codex, kind, day, known int, values []int) ([]int, api.Errno) {
	if !slices.Contains(kinds(), kind) {
		return nil, api.ErrArg
	}
	force, e := wantedForce(c, day, known)
	if e != api.OK {
		return nil, e
	}
	if !wantedFits(c.Decls, values) {
		return nil, api.ErrArg
	}
	var all []int
	var results []result
	for _, i := range force {
		if c.Rules[i].Kind != kind {
			continue
		}
		when := computed(c.Decls, c.Rules[i].When, values)
		results = append(results, when)
		if when.isYes() {
			all = append(all, i)
		}
	}
	if e := firstError(results); e != api.OK {
		return nil, e
	}
	return all, api.OK
}

// rounded is the integer that is nearest to a number, by the integers beside it: of two equally near ones the one that is further away from 0.
func rounded(n *big.Rat) int {
	away := 1
	if n.Sign() < 0 {
		away = -1
	}
	near := new(big.Int).Quo(n.Num(), n.Denom())
	far := new(big.Int).Add(near, big.NewInt(int64(away)))
	distance := func(i *big.Int) *big.Rat {
		gap := new(big.Rat).Sub(n, new(big.Rat).SetInt(i))
		return gap.Abs(gap)
	}
	if distance(near).Cmp(distance(far)) < 0 {
		return int(near.Int64())
	}
	return int(far.Int64())
}

// wantedOwes is what Owes returns.
func wantedOwes(c api.Codex, month, known int, values []int) (int, []int, api.Errno) {
	if month < 0 || month > 1199 {
		return 0, nil, api.ErrRange
	}
	force, e := wantedForce(c, firstDay(month), known)
	if e != api.OK {
		return 0, nil, e
	}
	if !wantedFits(c.Decls, values) {
		return 0, nil, api.ErrArg
	}
	sum := 0
	var all []int
	var results []result
	for _, i := range force {
		r := c.Rules[i]
		if r.Kind != api.RuleCharge && r.Kind != api.RuleRight {
			continue
		}
		when := computed(c.Decls, r.When, values)
		results = append(results, when)
		if !when.isYes() {
			continue
		}
		give := computed(c.Decls, r.Give, values)
		results = append(results, give)
		all = append(all, i)
		if give.e == api.OK && r.Kind == api.RuleCharge {
			sum += rounded(give.n)
		} else if give.e == api.OK {
			sum -= rounded(give.n)
		}
	}
	if e := firstError(results); e != api.OK {
		return 0, nil, e
	}
	if sum < -1000000000 || sum > 1000000000 {
		return 0, nil, api.ErrRange
	}
	return sum, all, api.OK
}
