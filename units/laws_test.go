package units_test

import (
	"math"
	"math/rand/v2"
	"reflect"
	"slices"
	"testing"

	"cohousing/api"
	"cohousing/units"
)

// isWanted holds the unit of an expression against the one by the chapter.
func isWanted(t *testing.T, l []api.Decl, n api.Node) (api.Unit, api.Errno) {
	t.Helper()
	unit, e, at := units.Of(l, n)
	if want, f, place := wantedOf(l, n); unit != want || e != f || at != place {
		t.Fatalf("%+v, %+v: got %v, %v at %d; want %v, %v at %d", l, n, unit, e, at, want, f, place)
	}
	if got, want := units.Valid(l, n), areRight(l) && isFormed(n); got != want {
		t.Fatalf("%+v, %+v: got %v, want %v", l, n, got, want)
	}
	return unit, e
}

// isWantedOf holds what is wrong with by-laws against what it is by the chapter.
func isWantedOf(t *testing.T, c api.Codex) []api.Diag {
	t.Helper()
	got := units.Check(c)
	if want := wantedCheck(c); !slices.Equal(got, want) {
		t.Fatalf("%+v: got %v, want %v", c, got, want)
	}
	return got
}

// P11.1: expressions of all kinds have the units and the errors of the chapter.
func TestExpressions(t *testing.T) {
	count := map[api.Errno]int{}
	kinds := map[api.Unit]int{}
	expressions(7000, func(_ *rand.Rand, n api.Node) {
		unit, e := isWanted(t, house(), n)
		count[e]++
		kinds[unit]++
	})
	if count[api.OK] < 7000 || count[api.ErrUnit] < 1500 || count[api.ErrName] < 400 || len(kinds) < 200 {
		t.Errorf("only few expressions: %v, %d units", count, len(kinds))
	}
}

// P11.1: by-laws of all kinds have the errors of the chapter.
func TestBylaws(t *testing.T) {
	count := map[api.Errno]int{}
	allBylaws(6000, func(_ *rand.Rand, c api.Codex) {
		for _, d := range isWantedOf(t, c) {
			count[d.E]++
		}
	})
	for _, e := range []api.Errno{api.ErrArg, api.ErrLimit, api.ErrRange, api.ErrTwice, api.ErrScope, api.ErrState, api.ErrName, api.ErrUnit} {
		if count[e] < 100 {
			t.Errorf("only few by-laws with %v: %v", e, count)
		}
	}
}

// P11.2: other offsets do not change a unit, and an error not but for its place, which is that of the same node.
func TestOffsets(t *testing.T) {
	expressions(4000, func(r *rand.Rand, n api.Node) {
		unit, e, at := units.Of(house(), n)
		moved := placed(n, func() int { return anywhere(r) })
		other, f, place := units.Of(house(), moved)
		if other != unit || f != e {
			t.Fatalf("%+v: got %v, %v; with other offsets %v, %v", n, unit, e, other, f)
		}
		i := slices.IndexFunc(postfix(n), func(m api.Node) bool { return m.At == at })
		if e != api.OK && postfix(moved)[i].At != place {
			t.Fatalf("%+v: got %v at %d, want %d", moved, e, place, postfix(moved)[i].At)
		}
	})
}

// P11.2: offsets of by-laws change nothing but the places of errors.
func TestOffsetsOfBylaws(t *testing.T) {
	allBylaws(2000, func(r *rand.Rand, c api.Codex) {
		moved := api.Codex{Decls: slices.Clone(c.Decls), Rules: slices.Clone(c.Rules)}
		at := counted()
		for i := range moved.Decls {
			moved.Decls[i].At = anywhere(r)
		}
		for i, u := range moved.Rules {
			moved.Rules[i].At, moved.Rules[i].When, moved.Rules[i].Give = at(), placed(u.When, at), placed(u.Give, at)
		}
		got, other := isWantedOf(t, c), isWantedOf(t, moved)
		if !slices.EqualFunc(got, other, func(a, b api.Diag) bool { return a.E == b.E }) {
			t.Fatalf("%+v: got %v, with other offsets %v", c, got, other)
		}
	})
}

// P11.2: further declarations behind the others, with other names.
func TestFurtherDeclarations(t *testing.T) {
	expressions(4000, func(r *rand.Rand, n api.Node) {
		unit, e, at := units.Of(house(), n)
		l := house()
		for _, name := range []string{"b", "kk", "charge", "q1", "z", "mm", "x_2"}[:1+r.IntN(7)] {
			l = append(l, api.Decl{Name: name, Unit: pick(r, basic()...), Lo: 1, Hi: 1})
		}
		other, f, place := units.Of(l, n)
		if other != unit || f != e || place != at {
			t.Fatalf("%+v: got %v, %v at %d; with %v %v, %v at %d", n, unit, e, at, l, other, f, place)
		}
		// The first declaration of an own name counts as well wherever it stands.
		slices.Reverse(l)
		if other, f, place = units.Of(l, n); other != unit || f != e || place != at {
			t.Fatalf("%+v: got %v, %v at %d; the other way round %v, %v at %d", n, unit, e, at, other, f, place)
		}
	})
	b := fact("b")
	expectError(t, house(), marked(b), api.ErrName, there)
	expectUnit(t, append(house(), api.Decl{Name: "b", Unit: area}), b, area)
}

// P11.3: each part of an expression with a unit has one; the error of another one is that of the first part with one, and stands at the node of this part.
func TestParts(t *testing.T) {
	expressions(3000, func(_ *rand.Rand, n api.Node) {
		_, e, at := units.Of(house(), n)
		for _, part := range postfix(n) {
			_, f, place := units.Of(house(), part)
			if f == api.OK {
				continue
			}
			if f != e || place != at || part.At != at {
				t.Fatalf("%+v: got %v at %d, and %v at %d in %+v", n, e, at, f, place, part)
			}
			return
		}
		if e != api.OK {
			t.Fatalf("%+v: got %v at %d, and no part has an error", n, e, at)
		}
	})
}

// P11.4: an operand that is replaced by another one with the same unit.
func TestReplacing(t *testing.T) {
	count := 0
	expressions(4000, func(r *rand.Rand, n api.Node) {
		unit, e, _ := units.Of(house(), n)
		other := placed(n, counted())
		spot := place(r, &other)
		old, f, _ := units.Of(house(), *spot)
		if e != api.OK || f != api.OK {
			return
		}
		*spot = anyTyped(r, old, 4)
		if !isFormed(other) {
			expectError(t, house(), other, api.ErrArg, 0)
			return
		}
		count++
		if again, e, at := units.Of(house(), other); again != unit || e != api.OK || at != 0 {
			t.Fatalf("%+v: got %v; with %+v %v, %v at %d", n, unit, *spot, again, e, at)
		}
	})
	if count < 3000 {
		t.Errorf("only %d expressions", count)
	}
}

// small are all units with exponents from -1 to 1.
func small() []api.Unit {
	var all []api.Unit
	for i := range 27 {
		all = append(all, api.Unit{Money: i%3 - 1, Area: i/3%3 - 1, Days: i/9 - 1})
	}
	return all
}

// isSameAgain expects that one expression has its unit again if it is multiplied and divided by another one, in either order.
func isSameAgain(t *testing.T, a, b api.Node, unit api.Unit) {
	t.Helper()
	expectUnit(t, house(), a, unit)
	for _, n := range []api.Node{node(api.OpDiv, node(api.OpMul, a, b), b), node(api.OpMul, node(api.OpDiv, a, b), b), node(api.OpDiv, node(api.OpMul, b, a), b), node(api.OpMul, b, node(api.OpDiv, a, b))} {
		if isFormed(n) {
			expectUnit(t, house(), n, unit)
		}
	}
}

// P11.5: what is multiplied and divided by another expression has the same unit, with exponents from -1 to 1 in both.
func TestMultipliedAndDivided(t *testing.T) {
	r := dice()
	for _, first := range small() {
		for _, second := range small() {
			isSameAgain(t, made(first), made(second), first)
			for range 3 {
				isSameAgain(t, anyTyped(r, first, 5), anyTyped(r, second, 5), first)
			}
		}
	}
}

// P11.6: what is wrong without the last rule comes first in what is wrong with all, and by-laws in which nothing is wrong are right without it.
func TestBeginnings(t *testing.T) {
	count := map[bool]int{}
	allBylaws(4000, func(_ *rand.Rand, c api.Codex) {
		all := units.Check(c)
		if slices.Contains(all, malformed()) {
			return
		}
		count[len(all) == 0]++
		for i := range c.Rules {
			before := units.Check(api.Codex{Decls: c.Decls, Rules: c.Rules[:i]})
			if len(all) < len(before) || !slices.Equal(all[:len(before)], before) {
				t.Fatalf("%+v: got %v, with %d rules %v", c, all, i, before)
			}
		}
	})
	if count[true] < 1000 || count[false] < 1000 {
		t.Errorf("only few by-laws: %v", count)
	}
	var rules []api.Rule
	for i := range 100 {
		u := plain(api.RuleCharge)
		u.Version, u.At = 2+i%3, i
		rules = append(rules, u)
	}
	for i := range rules {
		all, before := units.Check(bylaws(rules[:i+1]...)), units.Check(bylaws(rules[:i]...))
		if len(before) > len(all) || !slices.Equal(before, all[:len(before)]) || len(all) > 20 {
			t.Fatalf("%d rules: got %v, without the last one %v", i+1, all, before)
		}
	}
}

// P11.7: where nothing is wrong, each When is a flag, and each Give has the unit of its kind.
func TestRight(t *testing.T) {
	count := map[int]int{}
	allBylaws(6000, func(_ *rand.Rand, c api.Codex) {
		if len(units.Check(c)) > 0 {
			return
		}
		for _, u := range c.Rules {
			count[u.Kind]++
			expectUnit(t, c.Decls, u.When, flag)
			if unit, is := given(u.Kind); is {
				expectUnit(t, c.Decls, u.Give, unit)
			} else if u.Give.Op != api.OpNumber || u.Give.N != (api.Rat{N: 0, D: 1}) || u.Give.Unit != pure {
				t.Fatalf("%+v gives something", u)
			}
		}
	})
	for _, kind := range kinds() {
		if count[kind] < 500 {
			t.Errorf("only few rules: %v", count)
		}
	}
}

// P1 and P11.1: any nodes, also too deep and too large ones, and any declarations.
func TestAnyNodes(t *testing.T) {
	r := dice()
	count := map[api.Errno]int{}
	for i := range 12000 {
		l := house()
		if i%5 == 0 {
			c := api.Codex{Decls: l}
			for range r.IntN(4) {
				spoil(r, &c)
			}
			l = c.Decls
		}
		_, e := isWanted(t, l, strange(r, typed(r, anyUnit(r), 1+i%6), r.IntN(4)))
		count[e]++
	}
	if count[api.OK] < 2000 || count[api.ErrArg] < 2000 || count[api.ErrUnit] < 50 {
		t.Errorf("only few expressions: %v", count)
	}
}

// cycle is an expression that contains itself.
func cycle(n api.Node) api.Node {
	for i := range n.Kids {
		n.Kids[i] = n
	}
	return n
}

// shared is an expression of a depth whose operands are the same ones at each place, so that there are far more places than memory.
func shared(depth int) api.Node {
	n := fact("k")
	for range depth - 1 {
		n = node(api.OpMin, n, n)
	}
	return n
}

// P1: expressions that contain themselves, share their operands, or are very large, end soon.
func TestEndless(t *testing.T) {
	for op := range 20 {
		for count := 1; count <= 5; count++ {
			expectFormed(t, cycle(node(op, make([]api.Node, count)...)), false)
		}
	}
	two := node(api.OpAdd, fact("k"), node(api.OpMul, fact("k"), fact("k")))
	two.Kids[1].Kids[0] = two
	expectFormed(t, two, false)
	for _, depth := range []int{8, 20, 21, 64, 1000, 100000} {
		expectFormed(t, shared(depth), false)
	}
	expectFormed(t, shared(7), true)
	expectUnit(t, house(), shared(7), pure)
	deep := fact("k")
	for range 1000000 {
		deep = not(deep)
	}
	expectFormed(t, deep, false)
	last := plain(api.RuleCharge)
	last.Give = cycle(node(api.OpIf, make([]api.Node, 3)...))
	expect(t, bylaws(append(slices.Repeat([]api.Rule{plain(api.RuleBan)}, 99), last)...), malformed())
}

// P1: arguments without any limits.
func TestNoLimits(t *testing.T) {
	least, most := math.MinInt, math.MaxInt
	unit := api.Unit{Flag: true, Money: most, Area: least, Days: most}
	n := api.Node{Op: most, At: least, Name: string(make([]byte, 100000)), N: api.Rat{N: least, D: least}, Unit: unit, Kids: make([]api.Node, 100000)}
	d := api.Decl{Name: n.Name, Unit: unit, Lo: least, Hi: most, At: most}
	u := api.Rule{Name: n.Name, Version: most, Kind: least, Act: n.Name, Days: api.Span{From: least, Until: most}, Known: most, When: n, Give: n, At: least}
	expect(t, api.Codex{Decls: []api.Decl{d}}, malformed())
	expect(t, api.Codex{Rules: []api.Rule{u}}, malformed())
	expect(t, api.Codex{Decls: slices.Repeat([]api.Decl{d}, 100000), Rules: slices.Repeat([]api.Rule{u}, 1000)}, malformed())
	expectError(t, []api.Decl{d}, yes(), api.ErrArg, 0)
	expectError(t, nil, n, api.ErrArg, 0)
	expectFormed(t, n, false)
	expectFormed(t, api.Node{}, false)
}

// P1 and the rules: arguments stay as they are, and a call has the same result each time.
func TestNoState(t *testing.T) {
	var last api.Codex
	allBylaws(1500, func(r *rand.Rand, c api.Codex) {
		same := api.Codex{Decls: slices.Clone(c.Decls)}
		for _, u := range c.Rules {
			u.When, u.Give = copied(u.When), copied(u.Give)
			same.Rules = append(same.Rules, u)
		}
		got := units.Check(c)
		if len(same.Rules) > 0 {
			isWanted(t, c.Decls, c.Rules[0].When)
		}
		if !slices.Equal(c.Decls, same.Decls) || !slices.EqualFunc(c.Rules, same.Rules, isSameRule) {
			t.Fatalf("%+v became %+v", same, c)
		}
		isWantedOf(t, last)
		if again := units.Check(c); !slices.Equal(again, got) {
			t.Fatalf("%+v: got %v, then %v", c, got, again)
		}
		for i := range got {
			got[i] = api.Diag{At: -5, E: api.ErrVoid}
		}
		isWantedOf(t, c)
		last = c
	})
}

// copied is an expression that shares no memory with another one.
func copied(n api.Node) api.Node {
	kids := n.Kids
	n.Kids = nil
	for _, kid := range kids {
		n.Kids = append(n.Kids, copied(kid))
	}
	return n
}

// isSameRule takes no operands and an empty list of them as the same.
func isSameRule(a, b api.Rule) bool {
	a.When, a.Give, b.When, b.Give = copied(a.When), copied(a.Give), copied(b.When), copied(b.Give)
	return reflect.DeepEqual(a, b)
}

// P1: several calls at a time have the results of calls one behind the other.
func TestAtOneTime(t *testing.T) {
	done := make(chan bool)
	for i := range 8 {
		go func() {
			r := rand.New(rand.NewPCG(uint64(i), 1))
			is := true
			for range 300 {
				c := anyBylaws(r)
				spoil(r, &c)
				n := mistaken(r, anyTyped(r, anyUnit(r), 4), 1)
				unit, e, at := units.Of(house(), n)
				want, f, place := wantedOf(house(), n)
				is = is && unit == want && e == f && at == place && slices.Equal(units.Check(c), wantedCheck(c))
			}
			done <- is
		}()
	}
	for range 8 {
		if !<-done {
			t.Error("another result")
		}
	}
}
