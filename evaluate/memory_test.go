package evaluate_test

import (
	"math"
	"math/rand/v2"
	"reflect"
	"slices"
	"testing"

	"cohousing/api"
	"cohousing/evaluate"
	"cohousing/units"
)

// unitOf is the unit of an expression.
func unitOf(l []api.Decl, n api.Node) api.Unit {
	unit, _, _ := units.Of(l, n)
	return unit
}

// P1: arguments without any limits.
func TestNoLimits(t *testing.T) {
	least, most := math.MinInt, math.MaxInt
	name := string(make([]byte, 100000))
	n := api.Node{Op: most, At: least, Name: name, N: api.Rat{N: least, D: least}, Unit: api.Unit{Flag: true, Money: most}, Kids: make([]api.Node, 1000)}
	r := api.Rule{Name: name, Version: most, Kind: least, Act: name, Days: api.Span{From: least, Until: most}, Known: most, When: n, Give: n, At: least}
	l := []api.Decl{{Name: name, Unit: api.Unit{Flag: true, Days: least}, Lo: least, Hi: most, At: least}}
	many := make([]int, 1000000)
	expectNode(t, l, n, many, "ErrArg")
	expectNode(t, house(), n, many, "ErrArg")
	expectNode(t, house(), node(api.OpAnd, make([]api.Node, 100000)...), tenant(), "ErrArg")
	for _, c := range []api.Codex{{Rules: []api.Rule{r}}, {Decls: l}, {Decls: slices.Repeat(house(), 10000)}, {Rules: slices.Repeat(laws(always("charge x", "give m")).Rules, 100000)}} {
		for _, kind := range []int{api.RuleBan, least, most} {
			if got := holdsText(evaluate.Holds(c, kind, least, most, many)); got != "ErrArg" {
				t.Errorf("got %q", got)
			}
		}
		if got := owesText(evaluate.Owes(c, 5, most, many)); got != "ErrArg" {
			t.Errorf("got %q", got)
		}
		if got := owesText(evaluate.Owes(c, most, least, many)); got != "ErrRange" {
			t.Errorf("got %q", got)
		}
	}
}

// P1: expressions that contain themselves, and such that are very large or deep, alone and in rules.
func TestEndless(t *testing.T) {
	deep, shared := expression("p"), expression("k")
	for range 1000000 {
		deep = node(api.OpNot, deep)
	}
	for range 64 {
		shared = node(api.OpAdd, shared, shared)
	}
	for _, n := range []api.Node{endless(), deep, shared, node(api.OpOr, node(api.OpTrue), endless())} {
		expectNode(t, house(), n, tenant(), "ErrArg")
		for _, change := range []func(r *api.Rule){func(r *api.Rule) { r.When = n }, func(r *api.Rule) { r.Give = n }} {
			c := laws(always("charge x", "when not p give m"), always("charge y", "when not p give m"))
			change(&c.Rules[1])
			if got := holdsText(evaluate.Holds(c, api.RuleCharge, 0, 0, tenant())); got != "ErrArg" {
				t.Errorf("got %q", got)
			}
			if got := owesText(evaluate.Owes(c, 0, 0, tenant())); got != "ErrArg" {
				t.Errorf("got %q", got)
			}
		}
	}
}

// P1 and the rules: expressions, declarations and values stay as they are, and a call has the same result each time.
func TestExpressionsStay(t *testing.T) {
	expressions(3000, func(r *rand.Rand, n api.Node, unit api.Unit) {
		l, values := house(), anyTenant(r)
		before, decls, kept := cloneNode(n), slices.Clone(l), slices.Clone(values)
		want := valueText(evaluate.Value(l, n, values))
		expectNode(t, l, n, values, want)
		if !reflect.DeepEqual(cloneNode(n), before) || !slices.Equal(l, decls) || !slices.Equal(values, kept) {
			t.Fatalf("%s for %v became %s for %v", shown(before), kept, shown(n), values)
		}
	})
}

// P1 and the rules: by-laws and values stay as they are, also in the room behind them, and a call has the same results each time, whatever becomes of the results.
func TestLawsStay(t *testing.T) {
	allLaws(800, func(r *rand.Rand, c api.Codex, w window) {
		room := []int{-9, -9, -9, -9, -9, -9, -9}
		values := append(room[:0], anyTenant(r)...)
		before, kept := cloneLaws(c), slices.Clone(room)
		day, month, known, kind := min(36524, max(0, w.day(r))), w.anyMonth(r), anyKnown(r, c), anyKind(r, c)
		held, e := evaluate.Holds(c, kind, day, known, values)
		cents, rules, f := evaluate.Owes(c, month, known, values)
		holds, owes := holdsText(held, e), owesText(cents, rules, f)
		for i := range held {
			held[i] = -5
		}
		for i := range rules {
			rules[i] = -5
		}
		if !reflect.DeepEqual(cloneLaws(c), before) || !slices.Equal(room, kept) {
			t.Fatalf("%sfor %v became\n%sfor %v", shownLaws(before), kept, shownLaws(c), room)
		}
		isSame := holds == holdsText(evaluate.Holds(c, kind, day, known, values)) && owes == owesText(evaluate.Owes(c, month, known, values))
		if !isSame {
			t.Fatalf("%skind %d, day %d, month %d, known %d, %v: another result", shownLaws(c), kind, day, month, known, values)
		}
	})
}

// P1: several calls at a time have the results of calls one behind the other.
func TestAtOneTime(t *testing.T) {
	c, w := anyLaws(rand.New(rand.NewPCG(1, 3)), 40)
	done := make(chan bool)
	for i := range 8 {
		go func() {
			r := rand.New(rand.NewPCG(uint64(i), 13))
			is := true
			for range 100 {
				kind, day, month, known, values := anyKind(r, c), w.day(r), w.anyMonth(r), anyKnown(r, c), anyTenant(r)
				n := anyTyped(r, anyUnit(r), 5)
				is = is && holdsText(evaluate.Holds(c, kind, day, known, values)) == holdsText(wantedHolds(c, kind, day, known, values))
				is = is && owesText(evaluate.Owes(c, month, known, values)) == owesText(wantedOwes(c, month, known, values))
				is = is && valueText(evaluate.Value(c.Decls, n, values)) == valueText(wantedValue(c.Decls, n, values))
			}
			done <- is
		}()
	}
	for range 8 {
		if !<-done {
			t.Error("another result")
		}
	}
}
