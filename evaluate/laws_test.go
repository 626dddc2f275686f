package evaluate_test

import (
	"math/rand/v2"
	"slices"
	"testing"

	"cohousing/api"
	"cohousing/codex"
	"cohousing/evaluate"
	"cohousing/rational"
)

// P13.1 and P13.2: expressions that have a unit, for all households of the house.
func TestAllTenants(t *testing.T) {
	all := tenants()
	counts := map[string]int{}
	expressions(50, func(r *rand.Rand, n api.Node, unit api.Unit) {
		for _, values := range all {
			got := valueText(evaluate.Value(house(), n, values))
			if want := valueText(wantedValue(house(), n, values)); got != want {
				t.Fatalf("%s for %v: got %s, want %s", shown(n), values, got, want)
			}
			counts[got]++
		}
	})
	if counts["ErrZero"] < 3000 || counts["ErrRange"] < 3000 || counts["ErrArg"] > 0 || counts["0"] < 3000 || counts["1"] < 3000 || len(counts) < 500 {
		t.Errorf("only few values: %d, %d, %d", len(counts), counts["ErrZero"], counts["ErrRange"])
	}
}

// P13.1 and P13.3: expressions that have a unit, for some households; those of flags are 0 or 1, all are numbers, and there are two errors.
func TestValues(t *testing.T) {
	counts := map[api.Errno]int{}
	expressions(20000, func(r *rand.Rand, n api.Node, unit api.Unit) {
		values := anyTenant(r)
		got, e := evaluate.Value(house(), n, values)
		if want, f := wantedValue(house(), n, values); got != want || e != f {
			t.Fatalf("%s for %v: got %v, %v, want %v, %v", shown(n), values, got, e, want, f)
		}
		isFlag := got == (api.Rat{N: 0, D: 1}) || got == (api.Rat{N: 1, D: 1})
		switch {
		case e == api.OK && (!rational.Valid(got) || unit.Flag && !isFlag):
			t.Fatalf("%s for %v: got %v", shown(n), values, got)
		case e != api.OK && e != api.ErrZero && e != api.ErrRange:
			t.Fatalf("%s for %v: got %v", shown(n), values, e)
		}
		counts[e]++
	})
	if counts[api.OK] < 8000 || counts[api.ErrZero] < 1000 || counts[api.ErrRange] < 1000 {
		t.Errorf("only few values: %v", counts)
	}
}

// P13.2: the value of an expression is that of the expression in which operands are replaced by others with the same value.
func TestReplacedOperands(t *testing.T) {
	count := 0
	expressions(10000, func(r *rand.Rand, n api.Node, unit api.Unit) {
		values := anyTenant(r)
		want := valueText(evaluate.Value(house(), n, values))
		for i, kid := range n.Kids {
			value, e := evaluate.Value(house(), kid, values)
			if other, is := plainNode(house(), kid, value, values); is && e == api.OK {
				n = cloneNode(n)
				n.Kids[i] = other
				count++
			}
		}
		expectNode(t, house(), n, values, want)
	})
	if count < 5000 {
		t.Errorf("only %d operands", count)
	}
}

// plainNode is an expression without facts that has the unit and the value of another one, if there is one with few nodes.
func plainNode(l []api.Decl, n api.Node, value api.Rat, values []int) (api.Node, bool) {
	unit := unitOf(l, n)
	isBasic := unit == api.Unit{} || unit == api.Unit{Area: 1} || unit == api.Unit{Days: 1}
	switch {
	case unit.Flag && value.N == 1:
		return node(api.OpTrue), true
	case unit.Flag:
		return node(api.OpNot, node(api.OpTrue)), true
	case isBasic && value.N >= 0:
		return number(value.N, value.D, unit), true
	case isBasic:
		return node(api.OpSub, number(0, 1, unit), number(-value.N, value.D, unit)), true
	}
	return api.Node{}, false
}

// P1 and P13.1: any declarations, expressions and values, also expressions that contain themselves.
func TestAnyValues(t *testing.T) {
	counts := map[api.Errno]int{}
	expressions(20000, func(r *rand.Rand, n api.Node, unit api.Unit) {
		c, values := laws(), anyTenant(r)
		if r.IntN(3) == 0 {
			spoilLaws(r, &c)
		}
		n = cloneNode(n)
		for range r.IntN(3) {
			spoilNode(r, &n)
		}
		if r.IntN(3) == 0 {
			values = spoilValues(r, values)
		}
		if got, want := evaluate.Fits(c.Decls, values), wantedFits(c.Decls, values); got != want {
			t.Fatalf("%v for %v: got %v, want %v", values, c.Decls, got, want)
		}
		got, e := evaluate.Value(c.Decls, n, values)
		if want, f := wantedValue(c.Decls, n, values); got != want || e != f {
			t.Fatalf("%s for %v: got %v, %v, want %v, %v", shown(n), values, got, e, want, f)
		}
		counts[e]++
	})
	if counts[api.OK] < 2000 || counts[api.ErrArg] < 5000 || counts[api.ErrZero] < 200 || counts[api.ErrRange] < 200 {
		t.Errorf("only few values: %v", counts)
	}
}

// factsOf are the names of the facts in an expression.
func factsOf(n api.Node) []string {
	var all []string
	if n.Op == api.OpFact {
		all = append(all, n.Name)
	}
	for _, kid := range n.Kids {
		all = append(all, factsOf(kid)...)
	}
	return all
}

// P13.4: facts that do not occur, further declarations behind the others, and offsets do not matter.
func TestScope(t *testing.T) {
	count := 0
	expressions(10000, func(r *rand.Rand, n api.Node, unit api.Unit) {
		l, values := house(), anyTenant(r)
		want := valueText(evaluate.Value(l, n, values))
		expectNode(t, l, placed(n, func() int { return anyInt(r) }), values, want)
		others, names := anyTenant(r), factsOf(n)
		for i, d := range l {
			if slices.Contains(names, d.Name) {
				others[i] = values[i]
			} else {
				count++
			}
		}
		expectNode(t, l, n, others, want)
		l[r.IntN(len(l))].At = anyInt(r)
		for i := range 1 + r.IntN(7) {
			lo := r.IntN(1000000)
			l = append(l, api.Decl{Name: []string{"more", "x", "z", "b", "money1", "kk", "act"}[i], Unit: pick(r, api.Unit{}, api.Unit{Money: 1}, api.Unit{Area: 1}), Lo: lo, Hi: lo, At: anyInt(r)})
			values, others = append(values, lo), append(others, lo)
		}
		expectNode(t, l, n, values, want)
		expectNode(t, l, n, others, want)
		// Declarations that do not occur can be left out.
		var rest []api.Decl
		var less []int
		for i, d := range l {
			if slices.Contains(names, d.Name) {
				rest, less = append(rest, d), append(less, values[i])
			}
		}
		expectNode(t, rest, n, less, want)
		slices.Reverse(rest)
		slices.Reverse(less)
		expectNode(t, rest, n, less, want)
	})
	if count < 5000 {
		t.Errorf("only %d facts that do not occur", count)
	}
}

// isWanted holds what Holds and Owes return against what they return by the chapter.
func isWanted(t *testing.T, c api.Codex, kind, day, month, known int, values []int) (holds, owes string) {
	t.Helper()
	holds = holdsText(evaluate.Holds(c, kind, day, known, values))
	if want := holdsText(wantedHolds(c, kind, day, known, values)); holds != want {
		t.Fatalf("%skind %d, day %d, known %d, %v: got %q, want %q", shownLaws(c), kind, day, known, values, holds, want)
	}
	owes = owesText(evaluate.Owes(c, month, known, values))
	if want := owesText(wantedOwes(c, month, known, values)); owes != want {
		t.Fatalf("%smonth %d, known %d, %v: got %q, want %q", shownLaws(c), month, known, values, owes, want)
	}
	return holds, owes
}

// P13.1: by-laws in which nothing is wrong, for households.
func TestLaws(t *testing.T) {
	holds, owes := map[string]int{}, map[string]int{}
	allLaws(2000, func(r *rand.Rand, c api.Codex, w window) {
		for range 12 {
			held, owed := isWanted(t, c, anyKind(r, c), w.day(r), w.anyMonth(r), anyKnown(r, c), anyTenant(r))
			holds[held]++
			owes[owed]++
		}
	})
	for _, counts := range []map[string]int{holds, owes} {
		if counts["ErrZero"] < 100 || counts["ErrRange"] < 100 || counts["ErrArg"] > 0 || len(counts) < 50 {
			t.Errorf("only few results: %d, %d, %d", len(counts), counts["ErrZero"], counts["ErrRange"])
		}
	}
}

// P1 and P13.1: any by-laws, kinds, days, months and values, also with expressions that contain themselves.
func TestAnyLaws(t *testing.T) {
	holds, owes := map[string]int{}, map[string]int{}
	allLaws(12000, func(r *rand.Rand, c api.Codex, w window) {
		values := anyTenant(r)
		if r.IntN(3) == 0 {
			values = spoilValues(r, values)
		}
		c = cloneLaws(c)
		for range pick(r, 0, 0, 1, 2) {
			spoilLaws(r, &c)
		}
		kind, known := anyKind(r, c), anyKnown(r, c)
		held, owed := isWanted(t, c, pick(r, kind, kind, anyInt(r)), pick(r, w.day(r), anyInt(r)), pick(r, w.anyMonth(r), anyInt(r)), pick(r, known, known, anyInt(r)), values)
		holds[held]++
		owes[owed]++
	})
	for _, counts := range []map[string]int{holds, owes} {
		if counts["ErrZero"] < 5 || counts["ErrRange"] < 300 || counts["ErrArg"] < 1000 || len(counts) < 20 {
			t.Errorf("only few results: %d, %d, %d, %d", len(counts), counts["ErrZero"], counts["ErrRange"], counts["ErrArg"])
		}
	}
}

// P13.5: a rule is among those that hold exactly if it is in force, and its When has the value 1.
func TestRules(t *testing.T) {
	count := 0
	allLaws(2000, func(r *rand.Rand, c api.Codex, w window) {
		day, known, values := min(36524, max(0, w.day(r))), anyKnown(r, c), anyTenant(r)
		force, e := codex.Force(c, day, known)
		if e != api.OK {
			t.Fatal(e)
		}
		for _, kind := range kinds() {
			got, e := evaluate.Holds(c, kind, day, known, values)
			for i, rule := range c.Rules {
				when, f := evaluate.Value(c.Decls, rule.When, values)
				is := slices.Contains(force, i) && rule.Kind == kind
				if is && f != api.OK && e == api.OK {
					t.Fatalf("%skind %d: no error", shownLaws(c), kind)
				}
				if e == api.OK && slices.Contains(got, i) != (is && when == api.Rat{N: 1, D: 1}) {
					t.Fatalf("%skind %d: got %v, %d has %v", shownLaws(c), kind, got, i, when)
				}
			}
			if !slices.IsSorted(got) || len(slices.Compact(slices.Clone(got))) != len(got) {
				t.Fatalf("%skind %d: got %v", shownLaws(c), kind, got)
			}
			count += len(got)
		}
	})
	if count < 1000 {
		t.Errorf("only %d rules hold", count)
	}
}

// P13.6: what a household owes is the sum of what the rules give that Owes names, which are the charges and rights that hold, each rounded.
func TestSums(t *testing.T) {
	count := 0
	allLaws(6000, func(r *rand.Rand, c api.Codex, w window) {
		month, known, values := min(1199, max(0, w.anyMonth(r))), anyKnown(r, c), anyTenant(r)
		cents, rules, e := evaluate.Owes(c, month, known, values)
		if e != api.OK {
			return
		}
		charges, _ := evaluate.Holds(c, api.RuleCharge, firstDay(month), known, values)
		rights, _ := evaluate.Holds(c, api.RuleRight, firstDay(month), known, values)
		both := slices.Concat(charges, rights)
		slices.Sort(both)
		if !slices.Equal(rules, both) {
			t.Fatalf("%smonth %d, known %d, %v: got %v, want %v", shownLaws(c), month, known, values, rules, both)
		}
		sum := 0
		for _, i := range rules {
			give, f := evaluate.Value(c.Decls, c.Rules[i].Give, values)
			if f != api.OK {
				t.Fatalf("%smonth %d, known %d, %v: %v, but %d has %v", shownLaws(c), month, known, values, e, i, f)
			}
			if c.Rules[i].Kind == api.RuleCharge {
				sum += nearest(give)
			} else {
				sum -= nearest(give)
			}
			count++
		}
		if sum != cents {
			t.Fatalf("%smonth %d, known %d, %v: got %d, want %d", shownLaws(c), month, known, values, cents, sum)
		}
	})
	if count < 2000 {
		t.Errorf("only %d rules", count)
	}
}

// nearest is the integer that is nearest to a number.
func nearest(n api.Rat) int {
	if n.N < 0 {
		return -nearest(api.Rat{N: -n.N, D: n.D})
	}
	return (2*n.N + n.D) / (2 * n.D)
}
