package conflict_test

import (
	"math"
	"math/rand/v2"
	"slices"

	"cohousing/api"
	"cohousing/parser"
)

// dice are random numbers that are the same each time.
func dice() *rand.Rand { return rand.New(rand.NewPCG(14, 43)) }

// pick is one of some things.
func pick[T any](r *rand.Rand, all ...T) T { return all[r.IntN(len(all))] }

// anyInt is any integer, often one at a bound.
func anyInt(r *rand.Rand) int {
	return pick(r, 0, 1, 2, 3, 10, 999, 36523, 36524, 36525, 36526, -1, math.MaxInt, math.MinInt, int(r.Uint64()))
}

// node is a node with operands.
func node(op int, kids ...api.Node) api.Node { return api.Node{Op: op, Kids: kids} }

// expressions are those of sources.
func expressions(sources ...string) []api.Node {
	var all []api.Node
	for _, source := range sources {
		n, e, _ := parser.Expr(source)
		if e != api.OK {
			panic(source)
		}
		all = append(all, n)
	}
	return all
}

// conditions are some by the facts of the house; a few of them have errors for some households.
var conditions = expressions(
	"true", "p", "k = 0", "k = 1", "k < 2", "k > 2", "k > 3", "d = 5 days", "d < 7 days", "d = k * 3 days", "m = 0 money", "m > 0.01 money",
	"m = k * 0.01 money", "m * k = 0.02 money", "1 / k < 1", "2 / (k - 2) < 1", "k * 999999999 < 5", "d / k > 2 days", "min(k, d / 3 days) = 2", "(if p then k else 3 - k) = 1",
)

// theFacts are those of the house.
var theFacts = laws(theHouse).Decls

// anyWhen is a condition of some levels.
func anyWhen(r *rand.Rand, levels int) api.Node {
	if levels <= 1 {
		return cloneNode(pick(r, conditions...))
	}
	next := func() api.Node { return anyWhen(r, levels-1-r.IntN(2)) }
	return pick(r, node(api.OpNot, next()), node(pick(r, api.OpAnd, api.OpAnd, api.OpOr, api.OpEq, api.OpNe), next(), next()))
}

// window is where the days of by-laws lie.
type window struct{ from, until int }

func anyWindow(r *rand.Rand) window {
	return pick(r, window{0, 12}, window{36513, 36525}, window{0, 36525}, window{1000, 1012})
}

// days are days of a window, at least one of them.
func (w window) days(r *rand.Rand) api.Span {
	from := w.from + r.IntN(w.until-w.from)
	return pick(r, api.Span{From: from, Until: from + 1}, api.Span{From: from, Until: w.until}, api.Span{From: from, Until: from + 1 + r.IntN(w.until-from)}, api.Span{From: w.from, Until: w.until})
}

// gift is what a rule of a kind gives.
func gift(kind int) api.Node {
	unit := api.Unit{}
	switch kind {
	case api.RuleCharge, api.RuleRight:
		unit.Money = 1
	case api.RuleNotice:
		unit.Days = 1
	}
	return api.Node{Op: api.OpNumber, N: api.Rat{D: 1}, Unit: unit}
}

// anyNext is a rule that can stand behind others: a later version of one of them, or a first one.
func anyNext(r *rand.Rand, all []api.Rule, w window) api.Rule {
	u := api.Rule{Name: pick(r, "x", "y", "z", "v", "w", "k", "x1", "a", "b", "c"), Version: 1, Kind: pick(r, 3, 3, 3, 4, 4, 4, 1+r.IntN(7)), Known: pick(r, 0, 0, 0, 1, 2, 36524)}
	if slices.Contains([]int{api.RuleDuty, api.RuleBan, api.RuleVote, api.RuleNotice}, u.Kind) {
		u.Act = pick(r, "x", "x", "x", "y")
	}
	for _, other := range all {
		if other.Name == u.Name {
			u.Kind, u.Act, u.Version = other.Kind, other.Act, other.Version+1
			u.Known = min(36524, other.Known+pick(r, 0, 0, 1, 2, 1000))
		}
	}
	u.Days, u.When, u.Give = w.days(r), anyWhen(r, 1+r.IntN(4)), gift(u.Kind)
	return u
}

// anyLaws are by-laws in which nothing is wrong, and the window in which their days lie.
func anyLaws(r *rand.Rand, most int) (api.Codex, window) {
	w := anyWindow(r)
	c := api.Codex{Decls: slices.Clone(theFacts)}
	for range r.IntN(most + 1) {
		c.Rules = append(c.Rules, anyNext(r, c.Rules, w))
	}
	return c, w
}

// allLaws calls a function with by-laws in which nothing is wrong.
func allLaws(count int, do func(r *rand.Rand, c api.Codex, w window)) {
	r := dice()
	for i := range count {
		most := 14
		if i%100 == 0 {
			most = 60
		}
		c, w := anyLaws(r, most)
		do(r, c, w)
	}
}

// anyKnown is a day of knowledge: one from which a rule is known, or one beside it, or any other one.
func anyKnown(r *rand.Rand, c api.Codex) int {
	if len(c.Rules) == 0 || r.IntN(2) == 0 {
		return pick(r, 0, 1, 2, 36523, 36524)
	}
	return min(36524, max(0, c.Rules[r.IntN(len(c.Rules))].Known+r.IntN(3)-1))
}

// spoil changes something of by-laws in its place, so that it may be wrong.
func spoil(r *rand.Rand, c *api.Codex) {
	if len(c.Rules) == 0 || r.IntN(4) == 0 {
		d := &c.Decls[r.IntN(len(c.Decls))]
		switch r.IntN(3) {
		case 0:
			d.Name = pick(r, "x", "k", "p", "", "area")
		case 1:
			d.Unit = pick(r, api.Unit{}, api.Unit{Flag: true}, api.Unit{Money: 1}, api.Unit{Area: 2})
		default:
			*pick(r, &d.Lo, &d.Hi) = anyInt(r)
		}
		return
	}
	u := &c.Rules[r.IntN(len(c.Rules))]
	switch r.IntN(7) {
	case 0:
		u.Name = pick(r, "x", "y", "z", "", "true")
	case 1:
		u.Version += pick(r, 1, -1, anyInt(r))
	case 2:
		u.Kind = pick(r, 0, 8, 1+r.IntN(7), anyInt(r))
	case 3:
		u.Act = pick(r, "", "x", "other", "No")
	case 4:
		*pick(r, &u.Days.From, &u.Days.Until, &u.Known) = anyInt(r)
	case 5:
		u.When = pick(r, node(api.OpAnd), node(api.OpNot, u.When), api.Node{Op: api.OpFact, Name: pick(r, "p", "k", "unknown")}, endless())
	default:
		u.Give = pick(r, node(api.OpAdd, u.Give), node(api.OpMax, u.Give, u.Give), gift(1+r.IntN(7)), endless())
	}
}

// endless is an expression that contains itself.
func endless() api.Node {
	n := node(api.OpAnd, api.Node{Op: api.OpTrue}, api.Node{Op: api.OpTrue})
	n.Kids[1] = n
	return n
}
