package amend_test

import (
	"math"
	"math/rand/v2"
	"slices"

	"cohousing/api"
	"cohousing/parser"
)

// dice are random numbers that are the same each time.
func dice() *rand.Rand { return rand.New(rand.NewPCG(15, 46)) }

// pick is one of some things.
func pick[T any](r *rand.Rand, all ...T) T { return all[r.IntN(len(all))] }

// anyInt is any integer, often one at a bound.
func anyInt(r *rand.Rand) int {
	return pick(r, 0, 1, 2, 3, 10, 999, 36523, 36524, 36525, 100000, 100001, -1, math.MaxInt, math.MinInt, int(r.Uint64()))
}

// node is a node with operands.
func node(op int, kids ...api.Node) api.Node { return api.Node{Op: op, Kids: kids} }

// expressions are those of sources.
func expressions(sources ...string) []api.Node {
	var all []api.Node
	for _, source := range sources {
		n, e, _ := parser.Expr(source)
		if e != api.OK {
			panic(source)
		}
		all = append(all, n)
	}
	return all
}

// conditions are some by the facts of the house.
var conditions = expressions(
	"true", "true", "true", "p", "not p", "k = 0", "k < 2", "k > 2", "k > 4", "d = 5 days", "d < 7 days", "m = 0.02 money", "m > 0.03 money",
	"m = k * 0.01 money", "d = k * 2 days", "k = 2 or k = 4", "(if p then k else 4 - k) > 1",
)

// gifts are some amounts by the facts of the house.
var gifts = expressions(
	"0 money", "0.07 money", "1 money", "1 money", "m", "m * 0.5", "k * 0.02 money", "k * k * 0.01 money", "(k - 2) * 0.05 money", "m * k / 3", "0.03 money - m",
	"max(m, k * 0.01 money)", "min(k, 3) * 0.01 money", "if p then m else 0.10 money", "d / 5 days * m", "0.06 money / (k + 1)", "m / 100", "k * 1000 money", "d / 1 days * 0.01 money",
)

// broken are amounts that are none of layer 1 for some households, or of which not many can be added up.
var broken = expressions(
	"0.06 money / (k - 2)", "m / (k - 4)", "k * 3000000 money", "m / 999", "0.01 money / 99991", "0.01 money / 99989 * k", "9999999 money", "(k - 2) * 5000000 money", "m / (if p then 0 else 1)", "k * 1001 money", "m / 101",
)

// brokenConditions are conditions with an error for some households.
var brokenConditions = expressions("1 / k < 1", "2 / (k - 2) < 1", "k * 999999999 < 5", "1 / (m - 0.04 money) * 0.01 money < 1")

// anyWhen is a condition.
func anyWhen(r *rand.Rand, isSafe bool) api.Node {
	if !isSafe && r.IntN(12) == 0 {
		return cloneNode(pick(r, brokenConditions...))
	}
	a, b := cloneNode(pick(r, conditions...)), cloneNode(pick(r, conditions...))
	return pick(r, a, a, node(api.OpNot, a), node(api.OpAnd, a, b), node(api.OpOr, a, b))
}

// anyGift is an amount of some levels.
func anyGift(r *rand.Rand, levels int, isSafe bool) api.Node {
	if levels <= 1 && !isSafe && r.IntN(12) == 0 {
		return cloneNode(pick(r, broken...))
	}
	if levels <= 1 {
		return cloneNode(pick(r, gifts...))
	}
	next := func() api.Node { return anyGift(r, levels-1, isSafe) }
	if r.IntN(3) == 0 {
		return node(api.OpIf, anyWhen(r, isSafe), next(), next())
	}
	return node(pick(r, api.OpAdd, api.OpSub, api.OpMin, api.OpMax), next(), next())
}

// window is where the days of by-laws lie.
type window struct{ from, until int }

func anyWindow(r *rand.Rand) window {
	return pick(r, window{0, 4}, window{36521, 36525}, window{0, 36525}, window{1000, 1002})
}

// days are days of a window, at least one of them, often all.
func (w window) days(r *rand.Rand) api.Span {
	from := w.from + r.IntN(w.until-w.from)
	return pick(r, api.Span{From: from, Until: from + 1 + r.IntN(w.until-from)}, api.Span{From: w.from, Until: w.until})
}

// day is a day of a window.
func (w window) day(r *rand.Rand) int { return w.from + r.IntN(w.until-w.from) }

// hasAct reports whether rules of a kind are about an act.
func hasAct(kind int) bool {
	return slices.Contains([]int{api.RuleDuty, api.RuleBan, api.RuleVote, api.RuleNotice}, kind)
}

// anyNext is a rule that can stand behind others: a later version of one of them, or a first one.
func anyNext(r *rand.Rand, all []api.Rule, w window, isSafe bool) api.Rule {
	u := api.Rule{Name: pick(r, "x", "y", "z", "a", "b", "a_", "a1", "aa"), Version: 1, Kind: pick(r, 1, 1, 1, 1, 2, 2, 2, 2, 1+r.IntN(7)), Known: pick(r, 0, 0, 5, 36524)}
	if hasAct(u.Kind) {
		u.Act = "act"
	}
	for _, other := range all {
		if other.Name == u.Name {
			u.Kind, u.Act, u.Version = other.Kind, other.Act, other.Version+1
			u.Known = min(36524, other.Known+pick(r, 0, 0, 1, 1000))
		}
	}
	u.Days, u.When = w.days(r), anyWhen(r, isSafe)
	switch u.Kind {
	case api.RuleCharge, api.RuleRight:
		u.Give = anyGift(r, 1+r.IntN(3), isSafe)
	case api.RuleNotice:
		u.Give = expressions("d")[0]
	case api.RuleDuty, api.RuleBan:
		u.Give = expressions("0")[0]
	default:
		u.Give = expressions("1 / (k - 2)")[0]
	}
	return u
}

// theFacts are those of the house.
var theFacts = laws(theHouse).Decls

// anyLaws are by-laws in which nothing is wrong; if they are safe, what they give has no errors.
func anyLaws(r *rand.Rand, w window, most int, isSafe bool) api.Codex {
	c := api.Codex{Decls: slices.Clone(theFacts)}
	for range r.IntN(most + 1) {
		c.Rules = append(c.Rules, anyNext(r, c.Rules, w, isSafe))
	}
	return c
}

// amended are by-laws that come from others by some changes.
func amended(r *rand.Rand, c api.Codex, w window, isSafe bool) api.Codex {
	c = cloneLaws(c)
	for range 1 + r.IntN(3) {
		i := 0
		if len(c.Rules) > 0 {
			i = r.IntN(len(c.Rules))
		}
		switch {
		case len(c.Rules) == 0 || r.IntN(3) > 0:
			c.Rules = append(c.Rules, anyNext(r, c.Rules, w, isSafe))
		case isGiving(c.Rules[i]) && r.IntN(2) == 0:
			c.Rules[i].Give = node(pick(r, api.OpMin, api.OpMax, api.OpAdd), c.Rules[i].Give, cloneNode(pick(r, gifts...)))
		default:
			c.Rules[i].When = anyWhen(r, isSafe)
		}
	}
	return c
}

// pairs calls a function with by-laws in which nothing is wrong, others that come from them, and the window of both.
func pairs(count int, isSafe bool, do func(r *rand.Rand, old, changed api.Codex, w window)) {
	r := dice()
	for i := range count {
		most := 8
		if i%50 == 0 {
			most = 90
		}
		w := anyWindow(r)
		old := anyLaws(r, w, most, isSafe)
		changed := amended(r, old, w, isSafe)
		if r.IntN(3) == 0 {
			changed = anyLaws(r, w, most, isSafe)
		}
		do(r, old, changed, w)
	}
}

// anyHousehold are the values of a household for right declarations.
func anyHousehold(r *rand.Rand, l []api.Decl) []int {
	var values []int
	for _, d := range l {
		values = append(values, d.Lo+r.IntN(d.Hi-d.Lo+1))
	}
	return values
}

// anyIndex is mostly an index of a list, if there is one.
func anyIndex(r *rand.Rand, length int) int {
	if length == 0 || r.IntN(20) == 0 {
		return pick(r, length, -1, anyInt(r))
	}
	return r.IntN(length)
}

// spoil changes something of by-laws in its place, so that it may be wrong.
func spoil(r *rand.Rand, c *api.Codex) {
	if len(c.Rules) == 0 || r.IntN(4) == 0 {
		d := &c.Decls[r.IntN(len(c.Decls))]
		switch r.IntN(4) {
		case 0:
			d.Name = pick(r, "x", "k", "p", "", "area")
		case 1:
			d.Unit = pick(r, api.Unit{}, api.Unit{Flag: true}, api.Unit{Money: 1}, api.Unit{Area: 2})
		case 2:
			*pick(r, &d.Lo, &d.Hi) = anyInt(r)
		default:
			d.At = anyInt(r)
		}
		return
	}
	u := &c.Rules[r.IntN(len(c.Rules))]
	switch r.IntN(7) {
	case 0:
		u.Name = pick(r, "x", "y", "z", "", "true")
	case 1:
		u.Version += pick(r, 1, -1, anyInt(r))
	case 2:
		u.Kind = pick(r, 0, 8, 1+r.IntN(7), anyInt(r))
	case 3:
		u.Act = pick(r, "", "act", "other", "No")
	case 4:
		*pick(r, &u.Days.From, &u.Days.Until, &u.Known) = anyInt(r)
	case 5:
		u.When = pick(r, node(api.OpAnd), node(api.OpNot, u.When), api.Node{Op: api.OpFact, Name: pick(r, "p", "k", "unknown")}, endless())
	default:
		u.Give = pick(r, node(api.OpAdd, u.Give), node(api.OpMax, u.Give, u.Give), node(api.OpDiv, u.Give, expressions("2")[0]), endless())
	}
}

// endless is an expression that contains itself.
func endless() api.Node {
	n := node(api.OpAnd, api.Node{Op: api.OpTrue}, api.Node{Op: api.OpTrue})
	n.Kids[1] = n
	return n
}
