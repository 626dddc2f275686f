package printer_test

import (
	"math"
	"slices"
	"strings"
	"testing"

	"cohousing/api"
	"cohousing/parser"
	"cohousing/printer"
)

// wide is an expression with a number of leaves and of as little depth as possible.
func wide(leaves int, leaf api.Node) api.Node {
	if leaves == 1 {
		return leaf
	}
	return node(api.OpAdd, wide(leaves-leaves/2, leaf), wide(leaves/2, leaf))
}

// limits are expressions that have just so many nodes, or just such a depth, and others that have one more, or many more.
func limits() (small, large []api.Node) {
	a, b := name("a"), name("b")
	hundred, fifty := wide(100, a), wide(50, b)
	small = []api.Node{hundred, not(hundred), node(api.OpMin, not(fifty), fifty), node(api.OpIf, a, fifty, fifty), node(api.OpIf, not(a), wide(49, b), fifty)}
	large = []api.Node{wide(101, a), not(not(hundred)), not(wide(101, a)), node(api.OpMax, not(fifty), not(fifty)), node(api.OpIf, a, wide(51, a), fifty), node(api.OpIf, not(a), fifty, fifty), wide(398, cents(5)), wide(100000, yes())}
	for _, longer := range []func(n api.Node) api.Node{
		not,
		func(n api.Node) api.Node { return node(api.OpAdd, n, a) },
		func(n api.Node) api.Node { return node(api.OpSub, b, n) },
		func(n api.Node) api.Node { return node(api.OpDiv, n, b) },
		func(n api.Node) api.Node { return node(api.OpEq, n, a) },
		func(n api.Node) api.Node { return node(api.OpLt, yes(), n) },
		func(n api.Node) api.Node { return node(api.OpOr, n, number(1, 2)) },
		func(n api.Node) api.Node { return node(api.OpAnd, b, n) },
		func(n api.Node) api.Node { return node(api.OpMin, n, a) },
		func(n api.Node) api.Node { return node(api.OpMax, b, n) },
		func(n api.Node) api.Node { return node(api.OpIf, n, a, b) },
		func(n api.Node) api.Node { return node(api.OpIf, a, n, b) },
		func(n api.Node) api.Node { return node(api.OpIf, a, b, n) },
	} {
		n := cents(1250)
		for depth := 2; depth <= 1000; depth++ {
			n = longer(n)
			switch depth {
			case 19, 20:
				small = append(small, n, node(api.OpMul, n.Kids[0], n.Kids[0]))
			case 21, 22, 201, 1000:
				large = append(large, n, node(api.OpMul, n, a))
			}
		}
	}
	return small, large
}

// P10.1: expressions with 200 and 201 nodes, and of the depth 20 and 21.
func TestLimitsOfExpr(t *testing.T) {
	small, large := limits()
	for _, n := range small {
		expectExpr(t, map[string]api.Node{wantedExpr(n): n})
		u := plain("x")
		u.When, u.Give = n, n
		expect(t, map[string]api.Codex{wantedRule(u): rules(u)})
	}
	for _, n := range large {
		refuseExpr(t, n)
	}
}

// cycle is an expression that contains itself.
func cycle(n api.Node) api.Node {
	for i := range n.Kids {
		n.Kids[i] = n
	}
	return n
}

// shared is an expression of a depth whose operands are the same ones at each place, so that there are far more places than memory.
func shared(depth int) api.Node {
	n := name("a")
	for range depth - 1 {
		n = node(api.OpMin, n, n)
	}
	return n
}

// P1: expressions that contain themselves, share their operands, or are very large, end soon.
func TestEndless(t *testing.T) {
	for op := range 19 {
		for count := range 4 {
			refuseExpr(t, cycle(node(op, make([]api.Node, count+1)...)))
		}
	}
	for _, depth := range []int{8, 20, 21, 64, 1000, 100000} {
		refuseExpr(t, shared(depth))
	}
	expectExpr(t, map[string]api.Node{wantedExpr(shared(7)): shared(7)})
	deep := name("a")
	for range 1000000 {
		deep = not(deep)
	}
	refuseExpr(t, deep)
	all := rules(slices.Repeat([]api.Rule{plain("x")}, 100)...)
	all.Rules[99].Give = cycle(node(api.OpIf, make([]api.Node, 3)...))
	refuse(t, api.ErrArg, all)
}

// bounds are numbers that a source can have, and some that it cannot.
func bounds() (inside, outside []int) {
	return []int{0, 1, 9, 10, 36524, 36526, 999999998, 999999999}, []int{-1, -36525, -999999999, 1000000000, 1000000001, 1 << 31, 1 << 32, 1<<32 + 5, math.MaxInt, math.MinInt}
}

// P10.1: each number of facts and rules at and beyond its bounds.
func TestBounds(t *testing.T) {
	inside, outside := bounds()
	bylaws := func(n int) []api.Codex {
		return []api.Codex{
			facts(api.Decl{Name: "a", Lo: n}),
			facts(api.Decl{Name: "a", Hi: n}),
			facts(api.Decl{Name: "a", Lo: 1, Hi: 5}, api.Decl{Name: "b", Unit: api.Unit{Money: 1}, Hi: n}),
			changedRule(func(u *api.Rule) { u.Version = n }),
			changedRule(func(u *api.Rule) { u.Days.From = n }),
			changedRule(func(u *api.Rule) { u.Days.Until = n }),
			changedRule(func(u *api.Rule) { u.Known = n }),
			{Decls: []api.Decl{{Name: "a", Lo: n, Hi: n}}, Rules: []api.Rule{plain("x")}},
			{Decls: []api.Decl{{Name: "a", Lo: 3, Hi: 4}}, Rules: changedRule(func(u *api.Rule) { u.Version, u.Days, u.Known = n, api.Span{From: n, Until: n}, n }).Rules},
		}
	}
	for _, n := range inside {
		for _, c := range bylaws(n) {
			expect(t, map[string]api.Codex{wantedText(c): c})
		}
	}
	for _, n := range outside {
		refuse(t, api.ErrArg, bylaws(n)...)
	}
}

// P10.1: kinds of rules that there are, and others.
func TestKinds(t *testing.T) {
	for kind := 1; kind <= 7; kind++ {
		expect(t, map[string]api.Codex{kinds()[kind-1] + " x 1 from 0 known 0;\n": changedRule(func(u *api.Rule) { u.Kind = kind })})
	}
	for _, kind := range []int{0, 8, -1, 9, 100, 1 << 32, 1<<32 + 1, math.MaxInt, math.MinInt} {
		refuse(t, api.ErrArg, changedRule(func(u *api.Rule) { u.Kind = kind }))
	}
}

// P10.1: 12 and 13 facts, 100 and 101 rules, and far more.
func TestNumbersOfDeclarations(t *testing.T) {
	fact, rule := api.Decl{Name: "a", Hi: 1}, plain("x")
	for count := range 13 {
		expect(t, map[string]api.Codex{strings.Repeat("fact a: number 0 to 1;\n", count): facts(slices.Repeat([]api.Decl{fact}, count)...)})
	}
	for _, count := range []int{99, 100} {
		c := rules(slices.Repeat([]api.Rule{rule}, count)...)
		expect(t, map[string]api.Codex{strings.Repeat("charge x 1 from 0 known 0;\n", count): c})
		c.Decls = slices.Repeat([]api.Decl{fact}, 12)
		expect(t, map[string]api.Codex{strings.Repeat("fact a: number 0 to 1;\n", 12) + strings.Repeat("charge x 1 from 0 known 0;\n", count): c})
	}
	for _, count := range []int{13, 14, 100, 100000} {
		c := facts(slices.Repeat([]api.Decl{fact}, count)...)
		refuse(t, api.ErrArg, c, api.Codex{Decls: c.Decls, Rules: []api.Rule{rule}})
	}
	for _, count := range []int{101, 102, 1000, 10000} {
		c := rules(slices.Repeat([]api.Rule{rule}, count)...)
		refuse(t, api.ErrArg, c, api.Codex{Decls: []api.Decl{fact}, Rules: c.Rules})
	}
}

// shorten makes the line of a rule one byte shorter.
func shorten(u *api.Rule) {
	for _, n := range []*int{&u.Version, &u.Days.From, &u.Known} {
		if *n > 9 {
			*n /= 10
			return
		}
	}
	u.Act = u.Act[1:]
}

// ofBytes are 100 rules whose text has a number of bytes that is not much above or below 8000.
func ofBytes(bytes int) api.Codex {
	u := plain("abcdefghijklmnop")
	u.Act, u.Version, u.Days.From, u.Known = "abcdefghijklmnop", 999999999, 999999999, 999999999
	c := rules(slices.Repeat([]api.Rule{u}, 100)...)
	for i := range len(wantedText(c)) - bytes {
		shorten(&c.Rules[i%100])
	}
	return c
}

// row is an expression of a number of tokens, of which up to 39 are not too many.
func row(tokens int) api.Node {
	if tokens%2 == 0 {
		return not(row(tokens - 1))
	}
	n := name("a")
	for range tokens / 2 {
		n = node(api.OpSub, n, name("b"))
	}
	return n
}

// ofTokens are rules whose text has a number of tokens that is at least 20.
func ofTokens(tokens int) api.Codex {
	var c api.Codex
	for tokens > 0 {
		// There are 9 tokens beside those of the expression; the last rule needs 10.
		next := tokens
		if tokens > 48 {
			next = min(48, tokens-10)
		}
		u := plain("x")
		u.Give = row(next - 9)
		c.Rules = append(c.Rules, u)
		tokens -= next
	}
	return c
}

// P10.1: texts of 8000 bytes and of 2000 tokens, and of some less or more.
func TestLongTexts(t *testing.T) {
	for n := 7950; n <= 8050; n++ {
		holdLong(t, ofBytes(n), n > 8000)
	}
	for n := 1950; n <= 2050; n++ {
		holdLong(t, ofTokens(n), n > 2000)
	}
	holdLong(t, ofBytes(8400), true)
	holdLong(t, ofTokens(4000), true)
	most := rules(slices.Repeat([]api.Rule{{Name: "abcdefghijklmnop", Kind: 7, When: wide(100, name("abcdefghijklmnop")), Give: not(wide(100, of("number", number(999999999, 100))))}}, 100)...)
	holdLong(t, most, true)
}

// holdLong expects the text of by-laws, or that it is too long; and that such by-laws with something that is not printable are refused for that.
func holdLong(t *testing.T, c api.Codex, isLong bool) {
	t.Helper()
	if !isLong {
		expect(t, map[string]api.Codex{wantedText(c): c})
	} else {
		refuse(t, api.ErrLimit, c)
		if _, all := parser.Parse(wantedText(c)); len(all) == 0 || all[0].E != api.ErrLimit {
			t.Errorf("%d bytes are read: %v", len(wantedText(c)), all)
		}
	}
	for _, i := range []int{0, len(c.Rules) / 2, len(c.Rules) - 1} {
		for _, spoil := range []func(u *api.Rule){func(u *api.Rule) { u.Name = "X" }, func(u *api.Rule) { u.Known = -1 }, func(u *api.Rule) { u.When = not(node(api.OpIf)) }, func(u *api.Rule) { u.Give = name("give") }} {
			wrong := api.Codex{Rules: slices.Clone(c.Rules)}
			spoil(&wrong.Rules[i])
			refuse(t, api.ErrArg, wrong)
		}
	}
	refuse(t, api.ErrArg, api.Codex{Decls: []api.Decl{{Name: "a b"}}, Rules: c.Rules}, api.Codex{Rules: slices.Concat(c.Rules, slices.Repeat(c.Rules, 100))})
}

// P10.1: an expression alone may be as long as its nodes let it be; in by-laws, its text counts.
func TestLongExpressions(t *testing.T) {
	long := wide(100, of("number", number(999999999, 100)))
	expectExpr(t, map[string]api.Node{wantedExpr(long): long})
	u := plain("x")
	u.When, u.Give = long, long
	line := wantedRule(u)
	for count := 1; count <= 8; count++ {
		c := rules(slices.Repeat([]api.Rule{u}, count)...)
		want, e := strings.Repeat(line, count), api.OK
		if isLong(want) {
			want, e = "", api.ErrLimit
		}
		if text, f := printer.Print(c); text != want || f != e {
			t.Errorf("%d rules: got %.100q, %v; want %.100q, %v", count, text, f, want, e)
		}
	}
}
