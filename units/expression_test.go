package units_test

import (
	"strings"
	"testing"

	"cohousing/api"
)

// unitOf reads a unit: `f` is that of flags, `-` none; in other ones m, a and d stand for money, area and days, those behind a `/` for what is divided by.
func unitOf(text string) (api.Unit, bool) {
	if text == "f" {
		return flag, true
	}
	var unit api.Unit
	step := 1
	for _, c := range text {
		switch c {
		case 'm':
			unit.Money += step
		case 'a':
			unit.Area += step
		case 'd':
			unit.Days += step
		case '/':
			step = -1
		}
	}
	return unit, text != "-"
}

// made is an expression with a unit, by the facts of the house.
func made(unit api.Unit) api.Node {
	if unit.Flag {
		return fact("p")
	}
	n := fact("k")
	for i, exponent := range []int{unit.Money, unit.Area, unit.Days} {
		name := string("mad"[i])
		for range exponent {
			n = node(api.OpMul, n, fact(name))
		}
		for range -exponent {
			n = node(api.OpDiv, n, fact(name))
		}
	}
	return n
}

// ways are expressions with a basic unit of each kind.
func ways(unit api.Unit) []api.Node {
	x := made(unit)
	all := []api.Node{x, node(api.OpIf, fact("p"), x, x)}
	if unit.Flag {
		return append(all, yes(), not(x), node(api.OpLt, fact("m"), number(1, 1, money)), node(api.OpAnd, x, yes()))
	}
	return append(all, number(0, 1, unit), number(1000000000, 1, unit), node(api.OpMax, x, number(3, 1, unit)), node(api.OpMul, number(1, 2, pure), x))
}

// expectTable expects the units of an operator with each two basic units, those of its first operand downwards; each unit is that of several expressions.
func expectTable(t *testing.T, op int, rows ...string) {
	t.Helper()
	for i, first := range basic() {
		fields := strings.Fields(rows[i])
		for j, second := range basic() {
			want, is := unitOf(fields[j])
			for _, a := range ways(first) {
				for _, b := range ways(second) {
					if n := marked(node(op, a, b)); is {
						expectUnit(t, house(), n, want)
					} else {
						expectError(t, house(), n, api.ErrUnit, there)
					}
				}
			}
		}
	}
}

// P11.1: each operator with two operands of each unit: flags, pure numbers, money, area and days.
func TestTables(t *testing.T) {
	for _, op := range []int{api.OpAdd, api.OpSub, api.OpMin, api.OpMax} {
		expectTable(t, op,
			"- - - - -",
			"- 1 - - -",
			"- - m - -",
			"- - - a -",
			"- - - - d")
	}
	expectTable(t, api.OpMul,
		"- - - - -",
		"- 1 m a d",
		"- m mm ma md",
		"- a am aa ad",
		"- d dm da dd")
	expectTable(t, api.OpDiv,
		"- - - - -",
		"- 1 1/m 1/a 1/d",
		"- m 1 m/a m/d",
		"- a a/m 1 a/d",
		"- d d/m d/a 1")
	for _, op := range []int{api.OpEq, api.OpNe} {
		expectTable(t, op,
			"f - - - -",
			"- f - - -",
			"- - f - -",
			"- - - f -",
			"- - - - f")
	}
	for _, op := range []int{api.OpLt, api.OpLe} {
		expectTable(t, op,
			"- - - - -",
			"- f - - -",
			"- - f - -",
			"- - - f -",
			"- - - - f")
	}
	for _, op := range []int{api.OpAnd, api.OpOr} {
		expectTable(t, op,
			"f - - - -",
			"- - - - -",
			"- - - - -",
			"- - - - -",
			"- - - - -")
	}
}

// P11.1: OpNot of each unit, and OpIf of each three units.
func TestNotAndIf(t *testing.T) {
	for _, unit := range basic() {
		for _, x := range ways(unit) {
			if n := marked(not(x)); unit.Flag {
				expectUnit(t, house(), n, flag)
			} else {
				expectError(t, house(), n, api.ErrUnit, there)
			}
		}
		for _, first := range basic() {
			for _, second := range basic() {
				n := marked(node(api.OpIf, made(unit), made(first), made(second)))
				if unit.Flag && first == second {
					expectUnit(t, house(), n, first)
				} else {
					expectError(t, house(), n, api.ErrUnit, there)
				}
			}
		}
	}
}

// P11.1: units that differ by more than one exponent, or by one of several.
func TestCompoundUnits(t *testing.T) {
	texts := []string{"f", "1", "m", "mm", "mmm", "1/m", "m/a", "m/d", "ma", "md", "ad", "mad", "ma/d", "m/ad", "1/mad", "aaa/ddd", "mmmaaaddd"}
	for _, first := range texts {
		for _, second := range texts {
			one, _ := unitOf(first)
			two, _ := unitOf(second)
			a, b := made(one), made(two)
			isQuantity := first == second && first != "f"
			for op, want := range map[int]api.Unit{api.OpAdd: one, api.OpSub: one, api.OpMin: one, api.OpMax: one, api.OpLt: flag, api.OpLe: flag, api.OpEq: flag, api.OpNe: flag} {
				isFlag := first == second && (op == api.OpEq || op == api.OpNe)
				if n := marked(node(op, a, b)); isQuantity || isFlag {
					expectUnit(t, house(), n, want)
				} else {
					expectError(t, house(), n, api.ErrUnit, there)
				}
			}
			if n := marked(node(api.OpIf, yes(), a, b)); first == second {
				expectUnit(t, house(), n, one)
			} else {
				expectError(t, house(), n, api.ErrUnit, there)
			}
		}
	}
}

// ofExponent are units in which one exponent is given, and the others are those of another unit.
func ofExponent(n int, other api.Unit) []api.Unit {
	all := []api.Unit{other, other, other}
	all[0].Money, all[1].Area, all[2].Days = n, n, n
	return all
}

// P11.1: exponents of -3 and 3 and just beyond them, each one alone and beside others, by OpMul and by OpDiv.
func TestExponents(t *testing.T) {
	for _, other := range []api.Unit{pure, {Money: 1, Area: 1, Days: 1}, {Money: -1, Area: 1, Days: -1}} {
		for i := -3; i <= 3; i++ {
			for j := -3; j <= 3; j++ {
				firsts, seconds := ofExponent(i, other), ofExponent(j, other)
				for place := range firsts {
					a, b := firsts[place], seconds[place]
					for op, power := range map[int]int{api.OpMul: 1, api.OpDiv: -1} {
						n := marked(node(op, made(a), made(b)))
						if sum := i + power*j; -3 <= sum && sum <= 3 {
							expectUnit(t, house(), n, shifted(a, b, power))
						} else {
							expectError(t, house(), n, api.ErrUnit, there)
						}
					}
				}
			}
		}
	}
}

// P11.1: a unit that is too large on the way is an error, also if what follows would make it smaller.
func TestExponentsOnTheWay(t *testing.T) {
	three := node(api.OpMul, node(api.OpMul, fact("m"), fact("m")), fact("m"))
	expectUnit(t, house(), three, api.Unit{Money: 3})
	expectUnit(t, house(), node(api.OpDiv, three, fact("m")), api.Unit{Money: 2})
	expectUnit(t, house(), node(api.OpDiv, three, three), pure)
	expectError(t, house(), node(api.OpDiv, marked(node(api.OpMul, three, fact("m"))), fact("m")), api.ErrUnit, there)
	third := node(api.OpDiv, node(api.OpDiv, node(api.OpDiv, fact("k"), fact("d")), fact("d")), fact("d"))
	expectUnit(t, house(), third, api.Unit{Days: -3})
	expectUnit(t, house(), node(api.OpMul, third, fact("d")), api.Unit{Days: -2})
	expectError(t, house(), node(api.OpMul, marked(node(api.OpDiv, third, fact("d"))), fact("d")), api.ErrUnit, there)
	expectError(t, house(), marked(node(api.OpMul, third, number(1, 1, flag))), api.ErrUnit, 12)
}

// P11.1: numbers with the unit of flags, and with money and parts of cents.
func TestNumbers(t *testing.T) {
	for _, r := range []api.Rat{{N: 0, D: 1}, {N: 1, D: 1}, {N: 7, D: 1}, {N: 1000000000, D: 1}, {N: 1, D: 2}, {N: 5, D: 2}, {N: 1, D: 100}, {N: 1, D: 1000000000}, {N: 999999999, D: 1000000000}} {
		expectError(t, house(), marked(number(r.N, r.D, flag)), api.ErrUnit, there)
		for _, unit := range []api.Unit{pure, area, length} {
			expectUnit(t, house(), number(r.N, r.D, unit), unit)
		}
		if r.D == 1 {
			expectUnit(t, house(), number(r.N, r.D, money), money)
		} else {
			expectError(t, house(), marked(number(r.N, r.D, money)), api.ErrUnit, there)
		}
	}
	// What is computed may have parts of cents.
	expectUnit(t, house(), node(api.OpDiv, number(1, 1, money), number(2, 1, pure)), money)
	expectUnit(t, house(), node(api.OpMul, number(1, 2, pure), number(1, 1, money)), money)
	expectError(t, house(), node(api.OpEq, yes(), marked(number(1, 1, flag))), api.ErrUnit, there)
}

// wrongs are expressions with one error each, which stands at its node.
func wrongs() map[api.Errno][]api.Node {
	return map[api.Errno][]api.Node{
		api.ErrName: {fact("unknown"), fact("mm"), fact("kk"), fact("fact")},
		api.ErrUnit: {
			number(1, 1, flag),
			number(1, 2, money),
			node(api.OpAdd, fact("p"), fact("p")),
			node(api.OpSub, fact("k"), fact("m")),
			node(api.OpMul, fact("p"), fact("k")),
			node(api.OpDiv, fact("k"), yes()),
			node(api.OpMin, fact("a"), fact("d")),
			node(api.OpMax, fact("m"), number(1, 1, pure)),
			node(api.OpEq, fact("p"), fact("k")),
			node(api.OpNe, fact("m"), fact("a")),
			node(api.OpLt, fact("p"), fact("p")),
			node(api.OpLe, fact("k"), number(3, 1, length)),
			node(api.OpAnd, yes(), fact("k")),
			node(api.OpOr, fact("k"), yes()),
			not(fact("k")),
			node(api.OpIf, fact("k"), fact("m"), fact("m")),
			node(api.OpIf, yes(), fact("m"), fact("k")),
			node(api.OpMul, made(api.Unit{Money: 3}), fact("m")),
			node(api.OpDiv, made(api.Unit{Area: -3}), fact("a")),
		},
	}
}

// P11.1: the first error is that of an operand before that of the node, and that of the first operand before those of the others.
func TestFirstErrors(t *testing.T) {
	for e, all := range wrongs() {
		for _, wrong := range all {
			first := marked(wrong)
			expectError(t, house(), first, e, there)
			for op := api.OpAdd; op <= api.OpIf; op++ {
				expectFirst(t, op, first, e)
			}
		}
	}
}

// expectFirst expects the error of an operand at each place of an operator, behind operands of any unit, and before others with errors.
func expectFirst(t *testing.T, op int, first api.Node, e api.Errno) {
	t.Helper()
	count := len(theLaws[op].operands)
	for place := range count {
		for _, before := range []api.Node{fact("p"), fact("k"), made(api.Unit{Money: -3}), number(1, 3, area)} {
			for _, behind := range []api.Node{yes(), fact("m"), fact("unknown"), number(1, 1, flag), not(fact("k")), node(api.OpAdd, fact("unknown"), fact("p"))} {
				kids := make([]api.Node, count)
				for i := range kids {
					switch {
					case i < place:
						kids[i] = before
					case i == place:
						kids[i] = first
					default:
						kids[i] = behind
					}
				}
				n := node(op, kids...)
				expectError(t, house(), n, e, there)
				expectError(t, house(), not(node(api.OpAdd, n, n)), e, there)
				expectError(t, house(), node(api.OpIf, fact("k"), n, fact("unknown")), e, there)
			}
		}
	}
}

// P11.1: the declarations count that Of is given, and only if they are right.
func TestDeclarationsOfExpressions(t *testing.T) {
	for _, unit := range basic() {
		l := []api.Decl{{Name: "b", Unit: unit, Hi: 1}, {Name: "c", Unit: money, Lo: 3, Hi: 9}}
		expectUnit(t, l, fact("b"), unit)
		expectUnit(t, l, fact("c"), money)
		expectError(t, l, marked(fact("k")), api.ErrName, there)
		for _, wrong := range []api.Decl{{Name: "b", Unit: money}, {Name: "b", Unit: unit, Hi: 1}, {Name: "e", Lo: 1}, {Name: "e", Lo: -1}, {Name: "e", Unit: flag, Hi: 2}, {Name: "e", Hi: 4096}, {Name: "E"}, {Name: "e", Unit: api.Unit{Days: 2}}} {
			expectError(t, append([]api.Decl{wrong}, l...), fact("b"), api.ErrArg, 0)
			expectError(t, append(l, wrong), marked(fact("unknown")), api.ErrArg, 0)
		}
	}
}
