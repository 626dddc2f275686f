package units_test

import (
	"math"
	"slices"
	"strings"
	"testing"

	"cohousing/api"
	"cohousing/units"
)

// expectName expects that a text is a name everywhere, or nowhere.
func expectName(t *testing.T, text string, want bool) {
	t.Helper()
	l := []api.Decl{{Name: text}}
	if got := units.Valid(l, yes()); got != want {
		t.Errorf("fact %.40q: got %v, want %v", text, got, want)
	}
	if got := units.Valid(nil, fact(text)); got != want {
		t.Errorf("node %.40q: got %v, want %v", text, got, want)
	}
	named, about := plain(api.RuleVote), plain(api.RuleVote)
	named.Name, about.Act = text, text
	all := []api.Codex{{Decls: l}, {Rules: []api.Rule{named}}}
	// An Act may be empty, but not for this kind.
	if text != "" {
		all = append(all, api.Codex{Rules: []api.Rule{about}})
	}
	for _, c := range all {
		if want {
			expect(t, c)
		} else {
			expect(t, c, malformed())
		}
	}
	if want {
		expectUnit(t, l, fact(text), pure)
		expectError(t, nil, marked(fact(text)), api.ErrName, there)
	} else {
		expectError(t, l, yes(), api.ErrArg, 0)
		expectError(t, nil, fact(text), api.ErrArg, 0)
	}
}

// P11.1: names of 0, 1, 16 and 17 bytes.
func TestLengthsOfNames(t *testing.T) {
	expectName(t, "", false)
	for length := 1; length <= 40; length++ {
		for _, text := range []string{strings.Repeat("a", length), strings.Repeat("z", length), "q" + strings.Repeat("_", length-1), "b" + strings.Repeat("0", length-1)} {
			expectName(t, text, length <= 16)
		}
	}
	expectName(t, strings.Repeat("a", 1<<20), false)
}

// P11.1: each byte at each place of names.
func TestBytesOfNames(t *testing.T) {
	for i := range 256 {
		c := byte(i)
		text := string([]byte{c})
		isLetter := 'a' <= c && c <= 'z'
		isInside := isLetter || '0' <= c && c <= '9' || c == '_'
		expectName(t, text, isLetter)
		for _, rest := range []string{"b", "b1_", "abcdefghijklmno"} {
			expectName(t, text+rest, isLetter)
			expectName(t, rest+text, isInside)
			expectName(t, "a"+text+rest[1:], isInside)
		}
	}
	for _, text := range []string{"ä", "aé", "a\x00", "\x00", "a b", " a", "a ", "a\n", "a-b", "_a", "1a", "A", "aB", "__", "é"} {
		expectName(t, text, false)
	}
}

// P11.1: words that are reserved, and words that look like them.
func TestReservedWords(t *testing.T) {
	words := strings.Fields(reserved)
	if len(words) != 21 {
		t.Fatalf("%d words", len(words))
	}
	for _, word := range words {
		expectName(t, word, false)
		expectName(t, word+"s", word+"s" != "days")
		expectName(t, word+"_", true)
		expectName(t, word+"1", true)
		expectName(t, "a"+word, true)
		expectName(t, strings.ToUpper(word), false)
		expectName(t, word+" ", false)
		if shorter := word[:len(word)-1]; !slices.Contains(words, shorter) {
			expectName(t, shorter, true)
		}
	}
	for _, word := range []string{"fact", "charge", "right", "duty", "ban", "rooms", "vote", "notice", "numbers", "day", "flags", "iff", "false"} {
		expectName(t, word, true)
	}
}

// oddUnits are units that are no basic ones.
func oddUnits() []api.Unit {
	all := []api.Unit{{Flag: true, Money: 1}, {Flag: true, Area: 1}, {Flag: true, Days: 1}, {Flag: true, Days: -1}, {Money: 1, Area: 1}, {Money: 1, Days: -1}, {Area: 1, Days: 1}, {Money: 1, Area: 1, Days: 1}, {Money: 3}, {Days: -3}}
	for _, n := range []int{-1, 2, -2, 3, 4, math.MaxInt, math.MinInt, 1 << 32, 1<<32 + 1} {
		all = append(all, api.Unit{Money: n}, api.Unit{Area: n}, api.Unit{Days: n}, api.Unit{Flag: true, Money: n}, api.Unit{Money: 1, Days: n})
	}
	return all
}

// P11.1: units of declarations and of numbers, basic ones and others.
func TestUnits(t *testing.T) {
	for _, unit := range basic() {
		l := []api.Decl{{Name: "b", Unit: unit}}
		expectUnit(t, l, fact("b"), unit)
		expect(t, api.Codex{Decls: l})
		expectFormed(t, number(0, 1, unit), true)
	}
	for _, unit := range oddUnits() {
		for _, l := range [][]api.Decl{{{Name: "b", Unit: unit}}, {{Name: "c"}, {Name: "b", Unit: unit}}, {{Name: "b", Unit: unit}, {Name: "c"}}} {
			if units.Valid(l, yes()) {
				t.Errorf("%v is right", l)
			}
			expectError(t, l, yes(), api.ErrArg, 0)
			expect(t, api.Codex{Decls: l}, malformed())
		}
		expectFormed(t, number(0, 1, unit), false)
		expectFormed(t, number(1, 1, unit), false)
	}
}

// P11.1: values of numbers that are valid and from 0 on, and others.
func TestValuesOfNumbers(t *testing.T) {
	for _, unit := range basic() {
		for _, r := range []api.Rat{{N: 0, D: 1}, {N: 1, D: 1}, {N: 1, D: 2}, {N: 1, D: 3}, {N: 1000000000, D: 1}, {N: 1, D: 1000000000}, {N: 999999999, D: 1000000000}, {N: 7, D: 100}} {
			expectFormed(t, number(r.N, r.D, unit), true)
		}
		for _, r := range []api.Rat{{N: 0, D: 0}, {N: 1, D: 0}, {N: 0, D: 2}, {N: 2, D: 2}, {N: 2, D: 4}, {N: -1, D: 1}, {N: -1, D: 2}, {N: -1000000000, D: 1}, {N: 1, D: -1}, {N: -1, D: -1}, {N: 0, D: -1}, {N: 1000000001, D: 1}, {N: 1, D: 1000000001}, {N: math.MaxInt, D: 1}, {N: math.MinInt, D: 1}, {N: 1, D: math.MinInt}, {N: math.MinInt, D: math.MinInt}, {N: 1 << 32, D: 1}} {
			expectFormed(t, number(r.N, r.D, unit), false)
		}
	}
}

// P11.1: each operator with each number of operands, and operators that there are not.
func TestNumbersOfOperands(t *testing.T) {
	for _, op := range []int{math.MinInt, -1, 0, 18, 19, 100, math.MaxInt, 1<<32 + api.OpTrue, 1<<8 + api.OpAdd, -api.OpAdd} {
		for count := range 5 {
			expectFormed(t, node(op, slices.Repeat([]api.Node{fact("k")}, count)...), false)
		}
	}
	for op := api.OpNumber; op <= api.OpTrue; op++ {
		wanted := 2
		switch op {
		case api.OpNumber, api.OpFact, api.OpTrue:
			wanted = 0
		case api.OpNot:
			wanted = 1
		case api.OpIf:
			wanted = 3
		}
		for count := range 7 {
			for _, kid := range []api.Node{fact("k"), yes(), number(1, 1, money), fact("unknown")} {
				expectFormed(t, withFields(node(op, slices.Repeat([]api.Node{kid}, count)...)), count == wanted)
			}
		}
		if wanted == 0 {
			expectFormed(t, withFields(api.Node{Op: op, Kids: []api.Node{}}), true)
			expectFormed(t, withFields(api.Node{Op: op}), true)
		}
	}
}

// withFields is a node with the fields that its operator needs.
func withFields(n api.Node) api.Node {
	switch n.Op {
	case api.OpNumber:
		n.N = api.Rat{N: 1, D: 2}
	case api.OpFact:
		n.Name = "k"
	}
	return n
}

// P11.1: fields that nodes may not have, those that they need, and offsets, which may be any.
func TestFieldsOfNodes(t *testing.T) {
	for op := api.OpNumber; op <= api.OpTrue; op++ {
		n := withFields(node(op, slices.Repeat([]api.Node{fact("k")}, len(theLaws[op].operands))...))
		expectFormed(t, n, true)
		for _, name := range []string{"k", "b", "true", " "} {
			other := n
			other.Name = name
			expectFormed(t, other, op == api.OpFact && isName(name))
		}
		for _, value := range []api.Rat{{N: 0, D: 1}, {N: 1, D: 1}, {N: 5, D: 2}} {
			other := n
			other.N = value
			expectFormed(t, other, op == api.OpNumber)
		}
		for _, value := range []api.Rat{{N: 1, D: 0}, {N: -1, D: 1}} {
			other := n
			other.N = value
			expectFormed(t, other, false)
		}
		for _, unit := range []api.Unit{flag, money, area, length} {
			other := n
			other.Unit = unit
			expectFormed(t, other, op == api.OpNumber)
		}
		other := n
		other.Name, other.N = "", api.Rat{}
		expectFormed(t, other, op != api.OpFact && op != api.OpNumber)
		for _, at := range []int{0, -1, 8001, math.MaxInt, math.MinInt} {
			other := n
			other.At = at
			expectFormed(t, other, true)
		}
	}
}

// wide is an expression with a number of leaves and of as little depth as possible.
func wide(leaves int, leaf api.Node) api.Node {
	if leaves == 1 {
		return leaf
	}
	return node(api.OpMin, wide(leaves-leaves/2, leaf), wide(leaves/2, leaf))
}

// P11.1: expressions with 200 and 201 nodes.
func TestNumbersOfNodes(t *testing.T) {
	k, m := fact("k"), number(3, 1, money)
	hundred, fifty := wide(100, k), wide(50, k)
	for _, n := range []api.Node{hundred, not(hundred), node(api.OpMax, not(fifty), fifty), node(api.OpIf, k, fifty, fifty), node(api.OpIf, not(k), wide(49, m), fifty)} {
		expectFormed(t, n, true)
	}
	if all := postfix(not(hundred)); len(all) != 200 {
		t.Fatalf("%d nodes", len(all))
	}
	for _, n := range []api.Node{wide(101, k), not(not(hundred)), not(wide(101, m)), node(api.OpMax, not(fifty), not(fifty)), node(api.OpIf, k, wide(51, k), fifty), node(api.OpIf, not(k), fifty, fifty), wide(398, yes()), wide(100000, k)} {
		expectFormed(t, n, false)
	}
	expectUnit(t, house(), hundred, pure)
	expectUnit(t, house(), wide(100, m), money)
	expectError(t, house(), wide(101, k), api.ErrArg, 0)
}

// longer are ways to make an expression deeper by 1, each by an operand at another place.
func longer() []func(n api.Node) api.Node {
	all := []func(n api.Node) api.Node{}
	for op := api.OpAdd; op <= api.OpIf; op++ {
		count := len(theLaws[op].operands)
		for place := range count {
			all = append(all, func(n api.Node) api.Node {
				kids := slices.Repeat([]api.Node{fact("k")}, count)
				kids[place] = n
				return node(op, kids...)
			})
		}
	}
	return all
}

// P11.1: expressions of the depth 20 and 21, by operands at each place.
func TestDepths(t *testing.T) {
	for _, make := range longer() {
		n := fact("k")
		for depth := 2; depth <= 300; depth++ {
			n = make(n)
			switch depth {
			case 19, 20:
				expectFormed(t, n, true)
				expectFormed(t, node(api.OpAnd, n.Kids[0], n.Kids[0]), true)
			case 21, 22, 300:
				expectFormed(t, n, false)
				expectFormed(t, node(api.OpOr, fact("k"), n), false)
			}
		}
	}
}

// P11.1: 12 and 13 declarations, 100 and 101 rules.
func TestNumbersOfDeclarations(t *testing.T) {
	var l []api.Decl
	for i := range 13 {
		l = append(l, api.Decl{Name: "f" + strings.Repeat("g", i), At: 5})
		if i < 12 {
			expect(t, api.Codex{Decls: l})
			expectUnit(t, l, yes(), flag)
		}
	}
	expect(t, api.Codex{Decls: l}, malformed())
	expectError(t, l, yes(), api.ErrArg, 0)
	for _, count := range []int{13, 14, 1000, 100000} {
		l := slices.Repeat([]api.Decl{{Name: "f", At: 5}}, count)
		expect(t, api.Codex{Decls: l}, malformed())
		expectError(t, l, yes(), api.ErrArg, 0)
	}
	var rules []api.Rule
	for i := range 100 {
		u := plain(api.RuleRight)
		u.Version = i + 1
		rules = append(rules, u)
	}
	expect(t, bylaws(rules[:99]...))
	expect(t, bylaws(rules...))
	more := plain(api.RuleBan)
	more.Name = "y"
	for _, count := range []int{1, 2, 1000, 100000} {
		expect(t, bylaws(slices.Concat(rules, slices.Repeat([]api.Rule{more}, count))...), malformed())
	}
}

// P11.1: kinds of rules that there are, and others.
func TestKinds(t *testing.T) {
	for _, kind := range []int{0, 8, -1, 9, 100, 1 << 32, 1<<32 + 1, math.MaxInt, math.MinInt} {
		u := plain(api.RuleCharge)
		u.Kind = kind
		expect(t, bylaws(u), malformed())
		u.Act = "act"
		u.Give = number(0, 1, pure)
		expect(t, bylaws(u), malformed())
	}
}

// P11.1: what is not well-formed is found behind anything else that is wrong, and alone.
func TestMalformedBylaws(t *testing.T) {
	wrong := plain(api.RuleCharge)
	wrong.Version, wrong.Give = 0, fact("unknown")
	twice := slices.Concat(house(), house())
	expect(t, bylaws(wrong), api.Diag{At: atRule, E: api.ErrRange})
	expect(t, api.Codex{Decls: twice[:6]}, api.Diag{At: 1, E: api.ErrTwice})
	for _, change := range []func(u *api.Rule){
		func(u *api.Rule) { u.Name = "" },
		func(u *api.Rule) { u.Name = "to" },
		func(u *api.Rule) { u.Act = "To" },
		func(u *api.Rule) { u.Kind = 0 },
		func(u *api.Rule) { u.When = api.Node{} },
		func(u *api.Rule) { u.Give = api.Node{} },
		func(u *api.Rule) { u.When = node(api.OpAdd, fact("unknown")) },
		func(u *api.Rule) { u.Give = node(api.OpAdd, fact("unknown"), fact("")) },
	} {
		u := plain(api.RuleCharge)
		change(&u)
		expect(t, bylaws(u), malformed())
		expect(t, bylaws(wrong, u), malformed())
		expect(t, bylaws(slices.Concat(slices.Repeat([]api.Rule{wrong}, 50), []api.Rule{u})...), malformed())
		expect(t, api.Codex{Decls: twice[:6], Rules: []api.Rule{u}}, malformed())
	}
	expect(t, api.Codex{Decls: append(house(), api.Decl{Name: "p", Lo: 2}, api.Decl{Name: "P"})}, malformed())
}
