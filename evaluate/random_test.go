package evaluate_test

import (
	"math"
	"math/rand/v2"
	"slices"

	"cohousing/api"
	"cohousing/units"
)

// dice are random numbers that are the same each time.
func dice() *rand.Rand { return rand.New(rand.NewPCG(13, 40)) }

// pick is one of some things.
func pick[T any](r *rand.Rand, all ...T) T { return all[r.IntN(len(all))] }

// anyInt is any integer, often one at a bound.
func anyInt(r *rand.Rand) int {
	return pick(r, 0, 1, 2, 3, 5, 7, 8, 1199, 1200, 36524, 36525, 1000000, 1000001, -1, math.MaxInt, math.MinInt, int(r.Uint64()))
}

// anyUnit is the unit of flags, or that of a quantity.
func anyUnit(r *rand.Rand) api.Unit {
	exponent := func() int { return r.IntN(3) - 1 }
	return pick(r, api.Unit{Flag: true}, api.Unit{}, api.Unit{Money: 1}, api.Unit{Area: 1}, api.Unit{Days: 1}, api.Unit{Money: exponent(), Area: exponent(), Days: exponent()})
}

// number is a number with a basic unit.
func number(n, d int, unit api.Unit) api.Node {
	return api.Node{Op: api.OpNumber, N: api.Rat{N: n, D: d}, Unit: unit}
}

// anyNumber is a number with a basic unit of a quantity, now and then at a bound of layer 1.
func anyNumber(r *rand.Rand, unit api.Unit) api.Node {
	n := pick(r, api.Rat{N: r.IntN(4), D: 1}, api.Rat{N: r.IntN(12), D: 1}, api.Rat{N: r.IntN(12), D: 1}, api.Rat{N: 1, D: 2}, api.Rat{N: 2, D: 3}, api.Rat{N: 7, D: 4})
	if r.IntN(7) == 0 {
		n = pick(r, api.Rat{N: 1000000000, D: 1}, api.Rat{N: 999999999, D: 1}, api.Rat{N: 1, D: 1000000000}, api.Rat{N: 31622, D: 1}, api.Rat{N: 1, D: 31623})
	}
	if unit.Money != 0 {
		n.D = 1
	}
	return number(n.N, n.D, unit)
}

// leaf is an expression with a unit, by the facts of the house, as small as it can be.
func leaf(r *rand.Rand, unit api.Unit) api.Node {
	switch unit {
	case api.Unit{Flag: true}:
		return pick(r, node(api.OpTrue), fact("p"), fact("p"))
	case api.Unit{}:
		return pick(r, fact("k"), anyNumber(r, unit))
	case api.Unit{Money: 1}:
		return pick(r, fact("m"), anyNumber(r, unit))
	case api.Unit{Area: 1}:
		return pick(r, fact("a"), anyNumber(r, unit))
	case api.Unit{Days: 1}:
		return pick(r, fact("d"), anyNumber(r, unit))
	}
	n := leaf(r, api.Unit{})
	for i, exponent := range []int{unit.Money, unit.Area, unit.Days} {
		for range max(exponent, -exponent) {
			n = node(api.OpMul, n, fact([]string{"m", "a", "d"}[i]))
			if exponent < 0 {
				n.Op = api.OpDiv
			}
		}
	}
	return n
}

// shifted is a unit with exponents to which those of another one are added some times.
func shifted(unit, other api.Unit, times int) api.Unit {
	unit.Money += times * other.Money
	unit.Area += times * other.Area
	unit.Days += times * other.Days
	return unit
}

// isUnit reports whether exponents are within their bounds.
func isUnit(unit api.Unit) bool {
	return max(unit.Money, unit.Area, unit.Days, -unit.Money, -unit.Area, -unit.Days) <= 3
}

// typed is an expression of some levels above its leaves with a unit, by the facts of the house.
func typed(r *rand.Rand, unit api.Unit, levels int) api.Node {
	next := func(unit api.Unit) api.Node { return typed(r, unit, levels-1-r.IntN(2)) }
	if levels <= 1 {
		return leaf(r, unit)
	}
	if r.IntN(5) == 0 {
		return node(api.OpIf, next(api.Unit{Flag: true}), next(unit), next(unit))
	}
	if unit.Flag {
		return condition(r, next)
	}
	factor := pick(r, api.Unit{}, api.Unit{}, api.Unit{Money: 1}, api.Unit{Area: 1}, api.Unit{Days: 1})
	if dividend := shifted(unit, factor, 1); r.IntN(4) == 0 && isUnit(dividend) {
		return node(api.OpDiv, next(dividend), next(factor))
	}
	if other := shifted(unit, factor, -1); r.IntN(3) == 0 && isUnit(other) {
		return node(api.OpMul, next(other), next(factor))
	}
	return node(pick(r, api.OpAdd, api.OpSub, api.OpMin, api.OpMax), next(unit), next(unit))
}

// condition is an expression with the unit of flags, with operands that a function makes.
func condition(r *rand.Rand, next func(unit api.Unit) api.Node) api.Node {
	flag := api.Unit{Flag: true}
	switch r.IntN(5) {
	case 0:
		return node(api.OpNot, next(flag))
	case 1, 2:
		return node(pick(r, api.OpAnd, api.OpOr), next(flag), next(flag))
	case 3:
		return node(pick(r, api.OpLt, api.OpLe, api.OpEq), next(api.Unit{}), next(api.Unit{}))
	}
	unit := anyUnit(r)
	if unit.Flag {
		return node(pick(r, api.OpEq, api.OpNe), next(unit), next(unit))
	}
	return node(pick(r, api.OpEq, api.OpNe, api.OpLt, api.OpLe), next(unit), next(unit))
}

// anyTyped is an expression that has a unit.
func anyTyped(r *rand.Rand, unit api.Unit, levels int) api.Node {
	for {
		n := typed(r, unit, 1+r.IntN(levels))
		if units.Valid(house(), n) {
			return n
		}
	}
}

// tenants are all households of the house.
func tenants() [][]int {
	all := [][]int{nil}
	for _, d := range house() {
		var more [][]int
		for _, values := range all {
			for value := d.Lo; value <= d.Hi; value++ {
				more = append(more, append(slices.Clone(values), value))
			}
		}
		all = more
	}
	return all
}

// anyTenant are the values of a household of the house.
func anyTenant(r *rand.Rand) []int {
	var values []int
	for _, d := range house() {
		values = append(values, d.Lo+r.IntN(d.Hi-d.Lo+1))
	}
	return values
}

// placed gives each node an offset by a function.
func placed(n api.Node, at func() int) api.Node {
	n.At = at()
	n.Kids = slices.Clone(n.Kids)
	for i, kid := range n.Kids {
		n.Kids[i] = placed(kid, at)
	}
	return n
}

// spot is a node of an expression, at any depth.
func spot(r *rand.Rand, n *api.Node) *api.Node {
	for len(n.Kids) > 0 && r.IntN(3) > 0 {
		n = &n.Kids[r.IntN(len(n.Kids))]
	}
	return n
}

// spoilNode changes something of an expression in its place, so that it may have no unit, or a wrong form.
func spoilNode(r *rand.Rand, n *api.Node) {
	at := spot(r, n)
	switch r.IntN(8) {
	case 0:
		at.Op = pick(r, r.IntN(19), anyInt(r))
	case 1:
		at.Name = pick(r, "", "k", "m", "unknown", "true", "A")
	case 2:
		at.N = api.Rat{N: anyInt(r), D: pick(r, 1, 2, anyInt(r))}
	case 3:
		at.Unit = pick(r, anyUnit(r), api.Unit{Flag: true, Money: 1}, api.Unit{Area: anyInt(r)})
	case 4:
		at.Kids = append(at.Kids, leaf(r, anyUnit(r)))
	case 5:
		at.Kids = at.Kids[:len(at.Kids)/2]
	case 6:
		*at = pick(r, expression("unknown"), leaf(r, anyUnit(r)), endless())
	default:
		at.Op = api.OpAdd + r.IntN(12)
	}
}

// expressions calls a function with expressions that have a unit.
func expressions(count int, do func(r *rand.Rand, n api.Node, unit api.Unit)) {
	r := dice()
	for range count {
		unit := anyUnit(r)
		do(r, anyTyped(r, unit, 6), unit)
	}
}

// window is where the days of by-laws lie, and the months that begin there.
type window struct{ from, until, month, months int }

func anyWindow(r *rand.Rand) window {
	return pick(r, window{0, 92, 0, 4}, window{36434, 36525, 1197, 3}, window{0, 36525, 0, 1200}, window{20085, 20149, 660, 3})
}

// days are days of a window, at least one of them.
func (w window) days(r *rand.Rand) api.Span {
	from := w.from + r.IntN(w.until-w.from)
	return pick(r, api.Span{From: w.from, Until: w.until}, api.Span{From: from, Until: from + 1 + r.IntN(w.until-from)})
}

// day is a day of a window, or beside it, often the first one of a month or beside that.
func (w window) day(r *rand.Rand) int {
	return pick(r, w.from-1+r.IntN(w.until-w.from+2), firstDay(w.month+r.IntN(w.months))+r.IntN(3)-1)
}

// anyMonth is a month of a window, or beside it.
func (w window) anyMonth(r *rand.Rand) int {
	month := w.month + r.IntN(w.months)
	if r.IntN(20) == 0 {
		return pick(r, month-1, month+1, -1, 1200)
	}
	return month
}

// hasAct reports whether rules of a kind are about an act.
func hasAct(kind int) bool {
	return slices.Contains([]int{api.RuleDuty, api.RuleBan, api.RuleVote, api.RuleNotice}, kind)
}

// anyGift is what a rule of a kind gives.
func anyGift(r *rand.Rand, kind int) api.Node {
	switch kind {
	case api.RuleCharge, api.RuleRight:
		return pick(r, anyTyped(r, api.Unit{Money: 1}, 4), expression(pick(r, "m", "m / 2", "m / (k - 2)", "k * 2000000 money", "0 money - k * m / 6")))
	case api.RuleNotice:
		return anyTyped(r, api.Unit{Days: 1}, 3)
	case api.RuleRooms, api.RuleVote:
		return anyTyped(r, api.Unit{}, 3)
	}
	return number(0, 1, api.Unit{})
}

// anyWhen is a condition.
func anyWhen(r *rand.Rand) api.Node {
	return pick(r, node(api.OpTrue), node(api.OpTrue), anyTyped(r, api.Unit{Flag: true}, 4), expression(pick(r, "p", "k < 4", "1 / (k - 5) < 1", "k * 200000000 < 700")))
}

// anyNext is a rule that can stand behind others: a later version of one of them, or a first one.
func anyNext(r *rand.Rand, all []api.Rule, w window) api.Rule {
	u := api.Rule{Name: pick(r, "x", "x", "y", "z", "v", "w", "k", "x1"), Version: 1, Kind: pick(r, 1, 1, 1, 2, 2, 3, 4, 4, 5, 6, 7), Known: pick(r, 0, 0, 1, 2, 36524), At: anyInt(r)}
	if hasAct(u.Kind) {
		u.Act = pick(r, "act", "x")
	}
	for _, other := range all {
		if other.Name == u.Name {
			u.Kind, u.Act, u.Version = other.Kind, other.Act, other.Version+1
			u.Known = min(36524, other.Known+pick(r, 0, 0, 1, 2, 1000))
		}
	}
	u.Days = w.days(r)
	u.When, u.Give = anyWhen(r), anyGift(r, u.Kind)
	return u
}

// anyLaws are by-laws in which nothing is wrong, and the window in which their days lie.
func anyLaws(r *rand.Rand, most int) (api.Codex, window) {
	w := anyWindow(r)
	c := laws()
	for range r.IntN(most + 1) {
		c.Rules = append(c.Rules, anyNext(r, c.Rules, w))
	}
	return c, w
}

// allLaws calls a function with by-laws in which nothing is wrong.
func allLaws(count int, do func(r *rand.Rand, c api.Codex, w window)) {
	r := dice()
	for i := range count {
		most := 12
		if i%50 == 0 {
			most = 100
		}
		c, w := anyLaws(r, most)
		do(r, c, w)
	}
}

// anyKind is a kind of rules, often one that by-laws have.
func anyKind(r *rand.Rand, c api.Codex) int {
	if len(c.Rules) == 0 || r.IntN(4) == 0 {
		return 1 + r.IntN(7)
	}
	return c.Rules[r.IntN(len(c.Rules))].Kind
}

// anyKnown is a day of knowledge: one from which a rule is known, or one beside it, or any other one.
func anyKnown(r *rand.Rand, c api.Codex) int {
	if len(c.Rules) == 0 || r.IntN(3) == 0 {
		return pick(r, 0, 1, 2, 36523, 36524)
	}
	return min(36524, max(0, c.Rules[r.IntN(len(c.Rules))].Known+r.IntN(3)-1))
}

// spoilLaws changes something of by-laws in its place, so that it may be wrong.
func spoilLaws(r *rand.Rand, c *api.Codex) {
	if len(c.Rules) == 0 || r.IntN(4) == 0 {
		d := &c.Decls[r.IntN(len(c.Decls))]
		switch r.IntN(3) {
		case 0:
			d.Name = pick(r, "x", "k", "p", "", "area")
		case 1:
			d.Unit = anyUnit(r)
		default:
			*pick(r, &d.Lo, &d.Hi) = anyInt(r)
		}
		return
	}
	u := &c.Rules[r.IntN(len(c.Rules))]
	switch r.IntN(7) {
	case 0:
		u.Name = pick(r, "x", "y", "z", "", "true")
	case 1:
		u.Version += pick(r, 1, -1, anyInt(r))
	case 2:
		u.Kind = pick(r, 0, 8, 1+r.IntN(7), anyInt(r))
	case 3:
		u.Act = pick(r, "", "act", "other", "No")
	case 4:
		*pick(r, &u.Days.From, &u.Days.Until, &u.Known) = anyInt(r)
	case 5:
		spoilNode(r, &u.When)
	default:
		spoilNode(r, &u.Give)
	}
}

// spoilValues changes values, so that they may be those of no household.
func spoilValues(r *rand.Rand, values []int) []int {
	values = slices.Clone(values)
	switch r.IntN(4) {
	case 0:
		return values[:r.IntN(len(values)+1)]
	case 1:
		return append(values, anyInt(r))
	}
	i := r.IntN(len(values))
	values[i] = pick(r, values[i]-1, values[i]+1, values[i]+4, anyInt(r))
	return values
}
