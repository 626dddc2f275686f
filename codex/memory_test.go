package codex_test

import (
	"math"
	"math/rand/v2"
	"slices"
	"testing"

	"cohousing/api"
	"cohousing/codex"
)

// P1: expressions that contain themselves, and such that are very large, in by-laws and in a further rule.
func TestEndless(t *testing.T) {
	deep, wide := fact("p"), node(api.OpAnd, make([]api.Node, 100000)...)
	for range 1000000 {
		deep = node(api.OpNot, deep)
	}
	shared := fact("k")
	for range 64 {
		shared = node(api.OpAdd, shared, shared)
	}
	right := bylaws(rules("x 0 10 5", "y 0 10 5")...)
	for _, n := range []api.Node{endless(), deep, wide, shared, node(api.OpIf, yes(), endless(), deep)} {
		for _, change := range []func(r *api.Rule){func(r *api.Rule) { r.When = n }, func(r *api.Rule) { r.Give = n }} {
			expectRefused(t, right, changed(rule("x", 2, 0, 10, 5), change), api.ErrArg)
			expectRefused(t, right, changed(rule("new", 1, 0, 10, 5), change), api.ErrArg)
			expectRefused(t, right, changed(rule("x", 1, 0, 10, 5), change), api.ErrTwice)
			expectRefused(t, right, changed(rule("x", 3, 0, 10, 5), change), api.ErrState)
			wrong := bylaws(slices.Clone(right.Rules)...)
			change(&wrong.Rules[1])
			if codex.Valid(wrong) {
				t.Error("valid")
			}
			expectError(t, wrong, 5, 5, api.ErrArg)
			expectError(t, wrong, -1, 36525, api.ErrArg)
			expectRefused(t, wrong, rule("new", 1, 0, 10, 5), api.ErrArg)
			expectRefused(t, wrong, wrong.Rules[1], api.ErrArg)
		}
	}
}

// P1: arguments without any limits.
func TestNoLimits(t *testing.T) {
	least, most := math.MinInt, math.MaxInt
	name := string(make([]byte, 100000))
	n := api.Node{Op: most, At: least, Name: name, N: api.Rat{N: least, D: least}, Unit: api.Unit{Flag: true, Money: most}, Kids: make([]api.Node, 1000)}
	r := api.Rule{Name: name, Version: most, Kind: least, Act: name, Days: api.Span{From: least, Until: most}, Known: most, When: n, Give: n, At: least}
	for _, c := range []api.Codex{{Rules: []api.Rule{r}}, {Decls: []api.Decl{{Name: name, Lo: least, Hi: most}}}, {Decls: slices.Repeat(house(), 10000), Rules: slices.Repeat([]api.Rule{r}, 10000)}, {Rules: slices.Repeat(rules("x 0 10 0"), 100000)}} {
		if codex.Valid(c) {
			t.Error("valid")
		}
		expectError(t, c, least, most, api.ErrArg)
		expectRefused(t, c, r, api.ErrArg)
	}
	expectRefused(t, bylaws(), r, api.ErrState)
	r.Version = 1
	expectRefused(t, bylaws(), r, api.ErrArg)
	r.Version = least
	expectRefused(t, bylaws(rules("x 0 10 0")...), r, api.ErrState)
}

// nodesOf are where the operands of an expression lie in memory.
func nodesOf(n api.Node) []*api.Node {
	var all []*api.Node
	if len(n.Kids) > 0 {
		all = append(all, &n.Kids[0])
	}
	for _, kid := range n.Kids {
		all = append(all, nodesOf(kid)...)
	}
	return all
}

// memory is where by-laws lie.
func memory(c api.Codex) []any {
	var all []any
	if len(c.Decls) > 0 {
		all = append(all, &c.Decls[0])
	}
	if len(c.Rules) > 0 {
		all = append(all, &c.Rules[0])
	}
	for _, r := range c.Rules {
		for _, n := range append(nodesOf(r.When), nodesOf(r.Give)...) {
			all = append(all, n)
		}
	}
	return all
}

// P1 and the rules: by-laws that come from Amend share no memory with what was handed over, nor a part of them with another one.
func TestNewMemory(t *testing.T) {
	isNew := func(c api.Codex, r api.Rule) {
		t.Helper()
		amended, e := codex.Amend(c, r)
		if e != api.OK {
			t.Fatal(brief(c.Rules), e)
		}
		taken := map[any]bool{}
		for _, at := range memory(api.Codex{Decls: c.Decls, Rules: append(slices.Clone(c.Rules), r)}) {
			taken[at] = true
		}
		for _, at := range memory(c) {
			taken[at] = true
		}
		for _, at := range memory(amended) {
			if taken[at] {
				t.Fatalf("%s: shared memory", brief(amended.Rules))
			}
			taken[at] = true
		}
	}
	allBylaws(500, func(r *rand.Rand, c api.Codex, w window) {
		if len(c.Rules) < 100 {
			isNew(c, anyNext(r, c.Rules, w))
		}
	})
	// Parts of what is handed over may be the same ones.
	half := node(api.OpMul, fact("k"), fact("m"))
	both := rule("x", 1, 0, 10, 0)
	both.Give, both.When = node(api.OpAdd, half, half), node(api.OpLt, half, half)
	after := both
	after.Version = 2
	isNew(bylaws(), both)
	isNew(bylaws(both), after)
	// Room behind the rules is left as it is.
	room := append(make([]api.Rule, 0, 4), both)
	if _, e := codex.Amend(bylaws(room...), after); e != api.OK || room[:2][1].Name != "" {
		t.Error("a rule was written behind the others")
	}
}

// P1 and the rules: arguments stay as they are, and a call has the same results each time, whatever becomes of the results.
func TestNoState(t *testing.T) {
	allBylaws(800, func(r *rand.Rand, c api.Codex, w window) {
		u := anyNext(r, c.Rules, w)
		day, asked := min(36524, max(0, w.day(r))), known(r, c)
		before, rest := copied(c), copied(bylaws(u))
		first, days := force(t, c, day, asked), changes(t, c, asked)
		amended, e := codex.Amend(c, u)
		kept, one, all := copied(amended), slices.Clone(first), slices.Clone(days)
		for i := range first {
			first[i] = -5
		}
		for i := range days {
			days[i] = -5
		}
		for i := range amended.Rules {
			amended.Rules[i].Known = -5
			for _, n := range append(nodesOf(amended.Rules[i].When), nodesOf(amended.Rules[i].Give)...) {
				n.Op = -5
			}
		}
		for i := range amended.Decls {
			amended.Decls[i].Name = "changed"
		}
		if !isSame(c, before) || !isSame(bylaws(u), rest) {
			t.Fatalf("%s became%s", brief(before.Rules), brief(c.Rules))
		}
		expectForce(t, c, day, asked, one...)
		expectChanges(t, c, asked, all...)
		if again, f := codex.Amend(c, u); e != f || !isSame(again, kept) {
			t.Fatalf("%s: got%s, %v, then%s, %v", brief(c.Rules), brief(kept.Rules), e, brief(again.Rules), f)
		}
	})
}

// P1: several calls at a time have the results of calls one behind the other.
func TestAtOneTime(t *testing.T) {
	c, w := anyBylaws(rand.New(rand.NewPCG(1, 2)), 40)
	done := make(chan bool)
	for i := range 8 {
		go func() {
			r := rand.New(rand.NewPCG(uint64(i), 12))
			is := true
			for range 200 {
				day, asked := min(36524, max(0, w.day(r))), known(r, c)
				got, _ := codex.Force(c, day, asked)
				want, _ := wantedForce(c, day, asked)
				u := anyNext(r, c.Rules, w)
				amended, e := codex.Amend(c, u)
				other, f := wantedAmend(c, u)
				is = is && slices.Equal(got, want) && e == f && isSame(amended, other)
			}
			done <- is
		}()
	}
	for range 8 {
		if !<-done {
			t.Error("another result")
		}
	}
}
