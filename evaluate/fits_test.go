package evaluate_test

import (
	"math"
	"slices"
	"strconv"
	"testing"

	"cohousing/api"
	"cohousing/evaluate"
)

// expectFits expects that values are those of a household for declarations, or that they are not; the other functions refuse them then.
func expectFits(t *testing.T, l []api.Decl, values []int, want bool) {
	t.Helper()
	if got := evaluate.Fits(l, values); got != want {
		t.Errorf("%v for %v: got %v, want %v", values, l[:min(len(l), 13)], got, want)
	}
	value, holds, owes := "1", "0", "1: 1"
	if !want {
		value, holds, owes = "ErrArg", "ErrArg", "ErrArg"
	}
	expectNode(t, l, expression("true"), values, value)
	c := bylaws("rooms x 1 from 0 known 0 give 1; charge y 1 from 0 known 0 give 0.01 money;")
	c.Decls = l
	if got := holdsText(evaluate.Holds(c, api.RuleRooms, 0, 0, values)); got != holds {
		t.Errorf("%v for %v: got %s, want %s", values, l[:min(len(l), 13)], got, holds)
	}
	if got := owesText(evaluate.Owes(c, 0, 0, values)); got != owes {
		t.Errorf("%v for %v: got %s, want %s", values, l[:min(len(l), 13)], got, owes)
	}
}

// P13.1: values at their bounds and beside them, one by one, and the least and the greatest integers.
func TestBounds(t *testing.T) {
	l := house()
	for i, d := range l {
		for value, want := range map[int]bool{d.Lo: true, d.Lo + 1: true, d.Hi - 1: true, d.Hi: true, d.Lo - 1: false, d.Hi + 1: false, -1: false, 1000001: false, math.MinInt: false, math.MaxInt: false} {
			values := tenant()
			values[i] = value
			expectFits(t, l, values, want)
		}
	}
	least, most := []int{0, 0, 0, 1, 5}, []int{1, 7, 7, 4, 8}
	expectFits(t, l, least, true)
	expectFits(t, l, most, true)
	for i := range l {
		less, more := slices.Clone(least), slices.Clone(most)
		less[i]--
		more[i]++
		expectFits(t, l, less, false)
		expectFits(t, l, more, false)
	}
	for _, bounds := range [][2]int{{0, 0}, {7, 7}, {1000000, 1000000}, {995905, 1000000}} {
		one := []api.Decl{{Name: "k", Lo: bounds[0], Hi: bounds[1]}}
		for i := -2; i <= 2; i++ {
			expectFits(t, one, []int{bounds[0] + i}, i >= 0 && bounds[0]+i <= bounds[1])
			expectFits(t, one, []int{bounds[1] + i}, i <= 0 && bounds[1]+i >= bounds[0])
		}
	}
}

// P13.1: as many values as declarations, no fewer and no more.
func TestCounts(t *testing.T) {
	for _, none := range [][]int{nil, {}} {
		expectFits(t, nil, none, true)
		expectFits(t, []api.Decl{}, none, true)
		expectFits(t, house(), none, false)
	}
	expectFits(t, nil, []int{0}, false)
	expectFits(t, nil, []int{0, 0}, false)
	expectFits(t, house(), tenant()[:4], false)
	expectFits(t, house(), tenant()[:1], false)
	expectFits(t, house()[:4], tenant()[:4], true)
	for _, value := range []int{0, 1, 5, -1, math.MaxInt} {
		expectFits(t, house(), append(tenant(), value), false)
	}
	expectFits(t, house(), make([]int, 100000), false)
	var many []api.Decl
	for i := range 12 {
		many = append(many, api.Decl{Name: "x" + strconv.Itoa(i), Lo: i, Hi: i + 1})
	}
	expectFits(t, many, []int{0, 1, 2, 3, 4, 5, 6, 7, 8, 9, 10, 11}, true)
	expectFits(t, many, []int{1, 2, 3, 4, 5, 6, 7, 8, 9, 10, 11, 12}, true)
	expectFits(t, many, []int{0, 1, 2, 3, 4, 5, 6, 7, 8, 9, 10, 13}, false)
	many = append(many, api.Decl{Name: "x", Lo: 12, Hi: 12})
	expectFits(t, many, []int{0, 1, 2, 3, 4, 5, 6, 7, 8, 9, 10, 11, 12}, false)
}

// P13.1: declarations that are not right have no household, whatever the values are.
func TestDeclarations(t *testing.T) {
	right := api.Decl{Name: "k", Lo: 3, Hi: 5}
	expectFits(t, []api.Decl{right}, []int{4}, true)
	for _, change := range []func(d *api.Decl){
		func(d *api.Decl) { d.Name = "" },
		func(d *api.Decl) { d.Name = "K" },
		func(d *api.Decl) { d.Name = "number" },
		func(d *api.Decl) { d.Name = "abcdefghijklmnopq" },
		func(d *api.Decl) { d.Unit.Flag = true },
		func(d *api.Decl) { d.Unit.Money = 2 },
		func(d *api.Decl) { d.Unit.Money, d.Unit.Area = 1, -1 },
		func(d *api.Decl) { d.Lo = -1 },
		func(d *api.Decl) { d.Lo = math.MinInt },
		func(d *api.Decl) { d.Hi = 1000001 },
		func(d *api.Decl) { d.Hi = math.MaxInt },
		func(d *api.Decl) { d.Lo, d.Hi = 4, 4100 },
		func(d *api.Decl) { d.Lo, d.Hi = math.MinInt, math.MaxInt },
	} {
		wrong := right
		change(&wrong)
		expectFits(t, []api.Decl{wrong}, []int{4}, false)
		expectFits(t, []api.Decl{wrong, {Name: "m", Hi: 1}}, []int{4, 1}, false)
		expectFits(t, []api.Decl{{Name: "m", Hi: 1}, wrong}, []int{1, 4}, false)
		expectFits(t, []api.Decl{wrong}, nil, false)
	}
	empty := right
	empty.Lo = 6
	for _, value := range []int{4, 5, 6, 7} {
		expectFits(t, []api.Decl{empty}, []int{value}, false)
	}
	expectFits(t, []api.Decl{right, right}, []int{4, 4}, false)
	expectFits(t, []api.Decl{right, {Name: "m", Hi: 1}, {Name: "k", Hi: 4}}, []int{4, 1, 4}, false)
	expectFits(t, []api.Decl{{Name: "k", Hi: 4095}}, []int{4095}, true)
	expectFits(t, []api.Decl{{Name: "k", Hi: 63}, {Name: "m", Hi: 63}}, []int{63, 63}, true)
	expectFits(t, []api.Decl{{Name: "k", Hi: 63}, {Name: "m", Hi: 64}}, []int{1, 1}, false)
	expectFits(t, slices.Repeat(house(), 3), slices.Repeat(tenant(), 3), false)
	expectFits(t, slices.Repeat(house(), 10000), slices.Repeat(tenant(), 10000), false)
}

// P13.1: a declaration of a flag has the values 0 and 1, as far as its bounds do.
func TestFlags(t *testing.T) {
	for _, bounds := range []api.Range{{Lo: 0, Hi: 0}, {Lo: 0, Hi: 1}, {Lo: 1, Hi: 1}, {Lo: 0, Hi: 2}} {
		l := []api.Decl{{Name: "p", Unit: api.Unit{Flag: true}, Lo: bounds.Lo, Hi: bounds.Hi}}
		for value := -1; value <= 3; value++ {
			is := bounds.Lo <= value && value <= bounds.Hi && bounds.Hi <= 1
			expectFits(t, l, []int{value}, is)
			want := "ErrArg"
			if is {
				want = strconv.Itoa(value)
			}
			expectNode(t, l, expression("p"), []int{value}, want)
			expectNode(t, l, expression("not not p"), []int{value}, want)
		}
	}
}

// P13.1 and P1: expressions without a unit, with a wrong form, or that contain themselves have no value, also where they are not computed.
func TestNoUnit(t *testing.T) {
	one := api.Node{Op: api.OpNumber, N: api.Rat{N: 1, D: 1}}
	formed := func(change func(n *api.Node)) api.Node {
		n := one
		change(&n)
		return n
	}
	expectNode(t, house(), one, tenant(), "1")
	for i, n := range []api.Node{
		expression("unknown"), expression("k + m"), expression("k = m"), expression("p < p"), expression("p + p"),
		expression("k and p"), expression("p or k"), expression("not k"), expression("if k then 1 else 1"),
		expression("if p then k else m"), expression("m * m * m * m"), expression("1 / m / m / m / m"),
		expression("if p then 1 else unknown"), expression("p or 1 / 0"), expression("min(p, p)"), expression("1 flag"),
		{}, {Op: 18}, {Op: -1}, {Op: math.MaxInt}, {Op: math.MinInt}, {Op: api.OpAdd}, {Op: api.OpNot}, {Op: api.OpIf}, {Op: api.OpFact},
		{Op: api.OpFact, Name: "k", N: api.Rat{N: 1, D: 1}}, {Op: api.OpTrue, Name: "k"}, {Op: api.OpFact, Name: "true"},
		node(api.OpTrue, one), node(api.OpAdd, one), node(api.OpAdd, one, one, one), node(api.OpIf, node(api.OpTrue), one),
		node(api.OpNot, node(api.OpTrue), node(api.OpTrue)),
		formed(func(n *api.Node) { n.N.D = 0 }),
		formed(func(n *api.Node) { n.N.N = -1 }),
		formed(func(n *api.Node) { n.N = api.Rat{N: 2, D: 4} }),
		formed(func(n *api.Node) { n.N = api.Rat{N: 1000000001, D: 1} }),
		formed(func(n *api.Node) { n.N = api.Rat{N: 1, D: 2}; n.Unit.Money = 1 }),
		formed(func(n *api.Node) { n.Unit.Money = 2 }),
		formed(func(n *api.Node) { n.Name = "k" }),
		formed(func(n *api.Node) { n.Kids = []api.Node{one} }),
		formed(func(n *api.Node) { n.Op = api.OpTrue }),
		endless(), node(api.OpNot, endless()), node(api.OpOr, node(api.OpTrue), endless()),
	} {
		for _, full := range []api.Node{n, node(api.OpIf, node(api.OpTrue), one, n), node(api.OpOr, node(api.OpTrue), node(api.OpEq, n, n)), node(api.OpDiv, n, expression("0"))} {
			if got := valueText(evaluate.Value(house(), full, tenant())); got != "ErrArg" {
				t.Errorf("expression %d: got %s", i, got)
			}
		}
	}
}
