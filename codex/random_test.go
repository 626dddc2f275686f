package codex_test

import (
	"math"
	"math/rand/v2"
	"slices"

	"cohousing/api"
)

// dice are random numbers that are the same each time.
func dice() *rand.Rand { return rand.New(rand.NewPCG(12, 37)) }

// pick is one of some things.
func pick[T any](r *rand.Rand, all ...T) T { return all[r.IntN(len(all))] }

// anyInt is any integer, often one at a bound.
func anyInt(r *rand.Rand) int {
	return pick(r, 0, 1, 2, 3, 10, 999, 36523, 36524, 36525, 36526, -1, math.MaxInt, math.MinInt, int(r.Uint64()))
}

// anyFlag is the condition of a rule.
func anyFlag(r *rand.Rand, levels int) api.Node {
	if levels <= 1 {
		return pick(r, yes(), fact("p"), node(api.OpLt, fact("k"), number(r.IntN(8), api.Unit{})))
	}
	return pick(r, node(api.OpNot, anyFlag(r, levels-1)), node(pick(r, api.OpAnd, api.OpOr, api.OpEq), anyFlag(r, levels-1), anyFlag(r, levels-1)))
}

// anyGift is what a rule of a kind gives.
func anyGift(r *rand.Rand, kind int) api.Node {
	unit := unitOf(kind)
	value := number(r.IntN(100), unit)
	if kind == api.RuleDuty || kind == api.RuleBan {
		return number(0, unit)
	}
	return pick(r, value, node(api.OpMul, fact("k"), value), node(api.OpIf, anyFlag(r, 1), value, node(api.OpMax, value, number(r.IntN(50), unit))))
}

// window is where the days of by-laws lie.
type window struct{ from, until int }

func anyWindow(r *rand.Rand) window {
	return pick(r, window{0, 12}, window{36513, 36525}, window{0, 36525}, window{1000, 1012})
}

// days are days of a window, at least one of them.
func (w window) days(r *rand.Rand) api.Span {
	from := w.from + r.IntN(w.until-w.from)
	return api.Span{From: from, Until: pick(r, from+1, w.until, from+1+r.IntN(w.until-from))}
}

// day is a day of a window, or beside it.
func (w window) day(r *rand.Rand) int { return w.from - 1 + r.IntN(w.until-w.from+2) }

// next is a rule that can stand behind others, by a name and a kind that goes with it.
func next(r *rand.Rand, all []api.Rule, w window, name string, kind int) api.Rule {
	u := plain(name, kind)
	u.Known = pick(r, 0, 0, 1, 2, 36524)
	for _, other := range all {
		if other.Name == name {
			u.Kind, u.Act, u.Version = other.Kind, other.Act, other.Version+1
			u.Known = min(36524, other.Known+pick(r, 0, 0, 1, 2, 1000))
		}
	}
	u.Days = w.days(r)
	u.When, u.Give = anyFlag(r, 1+r.IntN(3)), anyGift(r, u.Kind)
	u.At = pick(r, 0, 20, 8000, -1, math.MinInt, math.MaxInt)
	return u
}

// anyNext is a rule that can stand behind others: a later version of one of them, or a first one.
func anyNext(r *rand.Rand, all []api.Rule, w window) api.Rule {
	return next(r, all, w, pick(r, "x", "x", "y", "z", "x1", "k"), pick(r, kinds()...))
}

// anyBylaws are by-laws in which nothing is wrong, and the window in which their days lie.
func anyBylaws(r *rand.Rand, most int) (api.Codex, window) {
	w := anyWindow(r)
	var all []api.Rule
	for range r.IntN(most + 1) {
		all = append(all, anyNext(r, all, w))
	}
	return bylaws(all...), w
}

// allBylaws calls a function with by-laws in which nothing is wrong.
func allBylaws(count int, do func(r *rand.Rand, c api.Codex, w window)) {
	r := dice()
	for i := range count {
		most := 12
		if i%50 == 0 {
			most = 100
		}
		c, w := anyBylaws(r, most)
		do(r, c, w)
	}
}

// known is a day from which a rule of by-laws is known, or one beside it, or any other one.
func known(r *rand.Rand, c api.Codex) int {
	if len(c.Rules) == 0 || r.IntN(4) == 0 {
		return pick(r, 0, 1, 2, 36523, 36524)
	}
	return min(36524, max(0, c.Rules[r.IntN(len(c.Rules))].Known+r.IntN(3)-1))
}

// spoilRule changes something of a rule, so that it may be wrong.
func spoilRule(r *rand.Rand, u *api.Rule) {
	switch r.IntN(9) {
	case 0:
		u.Name = pick(r, "x", "y", "z", "", "true")
	case 1:
		u.Version += pick(r, 1, -1, 2, anyInt(r))
	case 2:
		u.Kind = pick(r, 0, 8, 1+r.IntN(7), anyInt(r))
	case 3:
		u.Act = pick(r, "", "act", "other", "No")
	case 4:
		*pick(r, &u.Days.From, &u.Days.Until) = anyInt(r)
	case 5, 6:
		u.Known = pick(r, u.Known-1, 0, anyInt(r))
	case 7:
		u.When = pick(r, fact("k"), fact("unknown"), node(api.OpAnd), api.Node{}, node(api.OpNot, fact("d")), endless())
	default:
		u.Give = pick(r, fact("a"), fact("unknown"), node(api.OpAdd, u.Give), node(api.OpAdd, fact("k"), fact("m")), endless())
	}
}

// spoil changes something of by-laws, so that it may be wrong.
func spoil(r *rand.Rand, c *api.Codex) {
	c.Decls, c.Rules = slices.Clone(c.Decls), slices.Clone(c.Rules)
	switch {
	case r.IntN(5) == 0:
		d := &c.Decls[r.IntN(len(c.Decls))]
		switch r.IntN(3) {
		case 0:
			d.Name = pick(r, "x", "k", "p", "", "area")
		case 1:
			d.Unit = pick(r, api.Unit{}, api.Unit{Flag: true}, api.Unit{Money: 1}, api.Unit{Area: 2})
		default:
			*pick(r, &d.Lo, &d.Hi) = anyInt(r)
		}
	case len(c.Rules) > 0 && r.IntN(8) == 0:
		i, j := r.IntN(len(c.Rules)), r.IntN(len(c.Rules))
		c.Rules[i], c.Rules[j] = c.Rules[j], c.Rules[i]
	case len(c.Rules) > 0:
		spoilRule(r, &c.Rules[r.IntN(len(c.Rules))])
	}
}

// endless is an expression that contains itself.
func endless() api.Node {
	n := node(api.OpAnd, yes(), yes())
	n.Kids[1] = n
	return n
}
