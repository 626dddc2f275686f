package units_test

import (
	"math"
	"math/rand/v2"
	"slices"

	"cohousing/api"
)

// dice are random numbers that are the same each time.
func dice() *rand.Rand { return rand.New(rand.NewPCG(11, 33)) }

// pick is one of some things.
func pick[T any](r *rand.Rand, all ...T) T { return all[r.IntN(len(all))] }

// anywhere is any offset, also one that no source has.
func anywhere(r *rand.Rand) int {
	return pick(r, 0, 1, -1, 8000, math.MaxInt, math.MinInt, int(r.Uint64()))
}

// anyInt is any integer, often one at a bound.
func anyInt(r *rand.Rand) int {
	return pick(r, 0, 1, 2, 3, 63, 64, 999, 1000, 4095, 4096, 36524, 36525, 36526, 1000000, 1000001, -1, math.MaxInt, math.MinInt, int(r.Uint64()))
}

// anyName is a name, often one that is declared.
func anyName(r *rand.Rand) string {
	return pick(r, "p", "k", "m", "a", "d", "fact", "abcdefghijklmnop", "x_1")
}

// anyExponents is the unit of a quantity with exponents up to a number and down to minus that.
func anyExponents(r *rand.Rand, most int) api.Unit {
	exponent := func() int { return r.IntN(2*most+1) - most }
	return api.Unit{Money: exponent(), Area: exponent(), Days: exponent()}
}

// anyUnit is any unit, often a basic one.
func anyUnit(r *rand.Rand) api.Unit {
	return pick(r, flag, pure, money, area, length, anyExponents(r, 1), anyExponents(r, 3))
}

// leaf is an expression with a unit, by the facts of the house, as small as it can be.
func leaf(r *rand.Rand, unit api.Unit) api.Node {
	switch {
	case r.IntN(2) == 0 || !slices.Contains(basic(), unit):
		return made(unit)
	case unit.Flag:
		return yes()
	case unit.Money == 1:
		return number(r.IntN(1000000001), 1, unit)
	}
	value := pick(r, api.Rat{N: r.IntN(1000), D: 1}, api.Rat{N: 1 + 3*r.IntN(1000), D: 3}, api.Rat{N: 5, D: 4})
	return number(value.N, value.D, unit)
}

// typed is an expression of some levels above its leaves with a unit, by the facts of the house.
func typed(r *rand.Rand, unit api.Unit, levels int) api.Node {
	next := func(unit api.Unit) api.Node { return typed(r, unit, levels-1) }
	if levels <= 1 {
		return leaf(r, unit)
	}
	if r.IntN(4) == 0 {
		return node(api.OpIf, next(flag), next(unit), next(unit))
	}
	if unit.Flag {
		return condition(r, next)
	}
	factor := anyExponents(r, 1)
	switch r.IntN(3) {
	case 0:
		if other := shifted(unit, factor, -1); hasBounds(other) {
			return node(api.OpMul, next(other), next(factor))
		}
	case 1:
		if other := shifted(unit, factor, 1); hasBounds(other) {
			return node(api.OpDiv, next(other), next(factor))
		}
	}
	return node(pick(r, api.OpAdd, api.OpSub, api.OpMin, api.OpMax), next(unit), next(unit))
}

// condition is an expression with the unit of flags, with operands that a function makes.
func condition(r *rand.Rand, next func(unit api.Unit) api.Node) api.Node {
	switch r.IntN(4) {
	case 0:
		return not(next(flag))
	case 1:
		return node(pick(r, api.OpAnd, api.OpOr), next(flag), next(flag))
	case 2:
		unit := anyExponents(r, 1)
		return node(pick(r, api.OpLt, api.OpLe), next(unit), next(unit))
	}
	unit := pick(r, flag, anyExponents(r, 1))
	return node(pick(r, api.OpEq, api.OpNe), next(unit), next(unit))
}

// placed gives each node an offset by a function.
func placed(n api.Node, at func() int) api.Node {
	n.At = at()
	n.Kids = slices.Clone(n.Kids)
	for i, kid := range n.Kids {
		n.Kids[i] = placed(kid, at)
	}
	return n
}

// counted are offsets that are all different.
func counted() func() int {
	at := 1000
	return func() int {
		at++
		return at
	}
}

// anyTyped is a well-formed expression with a unit and different offsets.
func anyTyped(r *rand.Rand, unit api.Unit, levels int) api.Node {
	for {
		if n := typed(r, unit, 1+r.IntN(levels)); isFormed(n) {
			return placed(n, counted())
		}
	}
}

// place is a node of an expression, at any depth.
func place(r *rand.Rand, n *api.Node) *api.Node {
	for len(n.Kids) > 0 && r.IntN(3) > 0 {
		n = &n.Kids[r.IntN(len(n.Kids))]
	}
	return n
}

// mistaken is a well-formed expression in which operators, facts or operands were replaced by others, so that it may have errors.
func mistaken(r *rand.Rand, n api.Node, count int) api.Node {
	n = placed(n, counted())
	for range count {
		spot := place(r, &n)
		switch len(spot.Kids) {
		case 2:
			spot.Op = api.OpAdd + r.IntN(12)
		case 0:
			*spot = pick(r, fact("unknown"), fact(anyName(r)), leaf(r, anyUnit(r)), number(1, 2, money), number(1, 1, flag), yes())
		default:
			*spot = spot.Kids[r.IntN(len(spot.Kids))]
		}
	}
	return placed(n, counted())
}

// strange is an expression in which some nodes have something that they may not have.
func strange(r *rand.Rand, n api.Node, count int) api.Node {
	n = placed(n, counted())
	for range count {
		spot := place(r, &n)
		switch r.IntN(7) {
		case 0:
			spot.Op = anyInt(r)
		case 1:
			spot.Op = r.IntN(19)
		case 2:
			spot.Name = pick(r, "", "k", "true", "A", " a", "abcdefghijklmnopq", "give")
		case 3:
			spot.N = api.Rat{N: anyInt(r), D: pick(r, 1, 2, 100, anyInt(r))}
		case 4:
			spot.Unit = pick(r, anyUnit(r), api.Unit{Flag: true, Money: r.IntN(2)}, api.Unit{Area: anyInt(r)})
		case 5:
			spot.Kids = append(spot.Kids, leaf(r, anyUnit(r)))
		default:
			spot.Kids = spot.Kids[:len(spot.Kids)/2]
		}
	}
	return n
}

// expressions calls a function with well-formed expressions, most of which have a unit.
func expressions(count int, do func(r *rand.Rand, n api.Node)) {
	r := dice()
	for range count {
		n := anyTyped(r, anyUnit(r), 5)
		do(r, n)
		if n = mistaken(r, n, 1+r.IntN(3)); isFormed(n) {
			do(r, n)
		}
	}
}

// anyGift is what a rule of a kind may give.
func anyGift(r *rand.Rand, kind, levels int) api.Node {
	if unit, is := given(kind); is {
		return anyTyped(r, unit, levels)
	}
	return placed(number(0, 1, pure), counted())
}

// anyRules are up to some rules in which nothing is wrong, many of them later versions of others.
func anyRules(r *rand.Rand, most int) []api.Rule {
	var all []api.Rule
	last := map[string]api.Rule{}
	for range r.IntN(most + 1) {
		name := pick(r, "x", "y", "z", "x1", "fact")
		u, is := last[name]
		if !is {
			u = plain(pick(r, kinds()...))
			u.Name, u.Version = name, 0
			if u.Act != "" {
				u.Act = pick(r, "act", "p", "x")
			}
		}
		u.Version++
		u.Known = min(36524, u.Known+pick(r, 0, 0, 1, 500, 12000))
		u.Days.From = r.IntN(36525)
		u.Days.Until = pick(r, u.Days.From+1, 36525, u.Days.From+1+r.IntN(36525-u.Days.From))
		u.At = anywhere(r)
		u.When, u.Give = anyTyped(r, flag, 4), anyGift(r, u.Kind, 4)
		last[name] = u
		all = append(all, u)
	}
	return all
}

// anyBylaws are by-laws in which nothing is wrong.
func anyBylaws(r *rand.Rand) api.Codex {
	c := bylaws(anyRules(r, pick(r, 1, 4, 10))...)
	for i := range c.Decls {
		c.Decls[i].At = anywhere(r)
	}
	if r.IntN(3) == 0 {
		c.Decls = append(c.Decls, api.Decl{Name: pick(r, "b", "x", "act"), Unit: pick(r, basic()...), Lo: 1, Hi: 1, At: 6})
	}
	return c
}

// spoil makes something of by-laws wrong, or anything.
func spoil(r *rand.Rand, c *api.Codex) {
	if r.IntN(6) == 0 {
		d := &c.Decls[r.IntN(len(c.Decls))]
		switch r.IntN(5) {
		case 0:
			d.Name = pick(r, "p", "k", "d", "unknown", "b", "", "A")
		case 1:
			d.Unit = pick(r, flag, pure, money, area, length, api.Unit{Money: 2})
		default:
			*pick(r, &d.Lo, &d.Hi) = pick(r, 0, 1, 2, 3, 63, anyInt(r))
		}
		return
	}
	if len(c.Rules) == 0 {
		return
	}
	u := &c.Rules[r.IntN(len(c.Rules))]
	switch r.IntN(9) {
	case 0:
		u.Name = pick(r, "x", "y", "z", "x1", "fact")
	case 1:
		u.Act = pick(r, "", "act", "p", "b")
	case 2:
		u.Kind = 1 + r.IntN(7)
	case 3:
		u.Version = pick(r, 1, 2, 3, 4, anyInt(r))
	case 4:
		u.Known = pick(r, 0, 36524, anyInt(r))
	case 5:
		*pick(r, &u.Days.From, &u.Days.Until) = anyInt(r)
	case 6, 7:
		spot := pick(r, &u.When, &u.Give)
		*spot = mistaken(r, *spot, 1)
	default:
		spoilForm(r, u)
	}
}

// spoilForm makes a rule one that is not well-formed, in most cases.
func spoilForm(r *rand.Rand, u *api.Rule) {
	switch r.IntN(12) {
	case 0:
		*pick(r, &u.Name, &u.Act) = pick(r, "A", "to", "a b", "abcdefghijklmnopq")
	case 1:
		u.Kind = anyInt(r)
	case 2:
		spot := pick(r, &u.When, &u.Give)
		*spot = strange(r, *spot, 1)
	}
}

// allBylaws calls a function with by-laws in which nothing or several things are wrong.
func allBylaws(count int, do func(r *rand.Rand, c api.Codex)) {
	r := dice()
	for range count {
		c := anyBylaws(r)
		for range pick(r, 0, 1, 1, 2, 5) {
			spoil(r, &c)
		}
		do(r, c)
	}
}
