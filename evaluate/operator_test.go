package evaluate_test

import (
	"strings"
	"testing"

	"cohousing/api"
	"cohousing/evaluate"
)

// node is a node with operands.
func node(op int, kids ...api.Node) api.Node { return api.Node{Op: op, Kids: kids} }

func fact(name string) api.Node { return api.Node{Op: api.OpFact, Name: name} }

// P13.1 and P13.2: numbers, facts and truth.
func TestLeaves(t *testing.T) {
	for source, want := range map[string]string{
		"0":                  "0",
		"1":                  "1",
		"0.5":                "1/2",
		"12.50":              "25/2",
		"billion":            "1000000000",
		"billionth":          "1/1000000000",
		"12.50 money":        "1250",
		"10000000 money":     "1000000000",
		"0.01 money":         "1",
		"2.5 area":           "5/2",
		"0.25 days":          "1/4",
		"true":               "1",
		"p":                  "1",
		"k":                  "3",
		"m":                  "5",
		"a":                  "2",
		"d":                  "6",
		"k * k + k":          "12",
		"if p then k else k": "3",
	} {
		expectValue(t, source, want)
	}
	expectNode(t, house(), expression("p"), []int{0, 3, 5, 2, 6}, "0")
	expectNode(t, house(), expression("k - k * k"), []int{0, 7, 5, 2, 6}, "-42")
	expectNode(t, bylaws("fact big: number 999999 to 1000000;").Decls, expression("big"), []int{1000000}, "1000000")
}

// P13.2: sums, differences, products and quotients, also below 0 and such that are no integers.
func TestArithmetic(t *testing.T) {
	for source, want := range map[string]string{
		"k + 4":                           "7",
		"0.5 + 0.25":                      "3/4",
		"m + 0.02 money":                  "7",
		"a + a":                           "4",
		"d + 0.5 days":                    "13/2",
		"0 + 0":                           "0",
		"k - 4":                           "-1",
		"4 - k":                           "1",
		"0.5 - 0.75":                      "-1/4",
		"0.5 - 0.5":                       "0",
		"m - 0.09 money":                  "-4",
		"k * 0.5":                         "3/2",
		"(k - 4) * k":                     "-3",
		"(k - 4) * (k - 5)":               "2",
		"0 * k":                           "0",
		"m * a":                           "10",
		"m * a / a":                       "5",
		"k / 2":                           "3/2",
		"2 / k":                           "2/3",
		"6 / k":                           "2",
		"0 / k":                           "0",
		"(k - 5) / 4":                     "-1/2",
		"4 / (k - 5)":                     "-2",
		"1 / (0 - 2)":                     "-1/2",
		"(0 - 1) / (0 - 3)":               "1/3",
		"(0 - 2) / 3":                     "-2/3",
		"m / a":                           "5/2",
		"m / 2":                           "5/2",
		"1 / m":                           "1/5",
		"1 / 3 * 3":                       "1",
		"1 / 3 + 1 / 6":                   "1/2",
		"1 / 2 - 1 / 3":                   "1/6",
		"0 - 0.5 / (0 - k)":               "1/6",
		"k - 1 - 1":                       "1",
		"k / 2 / 2":                       "3/4",
		"10 - (k - 1)":                    "8",
		"12 / (k / 2)":                    "8",
		"k * d / (m * a) * a":             "18/5",
		"1 / billionth":                   "1000000000",
		"billionth * billion":             "1",
		"billion / billion":               "1",
		"999999999 + 1":                   "1000000000",
		"billion - 1":                     "999999999",
		"0 - billion":                     "-1000000000",
		"0 - 999999999 - 1":               "-1000000000",
		"billion + (0 - 1)":               "999999999",
		"500000000 * 2":                   "1000000000",
		"500000000 * (0 - 2)":             "-1000000000",
		"1 / billion":                     "1/1000000000",
		"1 / (0 - billion)":               "-1/1000000000",
		"1 / 31622 * (1 / 31622)":         "1/999950884",
		"billion / 999999999":             "1000000000/999999999",
		"999999999 / billion":             "999999999/1000000000",
		"999999999 / billion + billionth": "1",
	} {
		expectValue(t, source, want)
	}
}

// P13.1 and P13.3: quotients by 0, and numbers that layer 1 has not, also on the way to one that it has.
func TestNoNumber(t *testing.T) {
	for source, want := range map[string]string{
		"1 / 0":                       "ErrZero",
		"0 / 0":                       "ErrZero",
		"billion / 0":                 "ErrZero",
		"1 / (k - 3)":                 "ErrZero",
		"m / (k - 3)":                 "ErrZero",
		"1 / (0.5 - 0.5)":             "ErrZero",
		"1 / (m - 0.05 money)":        "ErrZero",
		"1 / (0 * k)":                 "ErrZero",
		"0 * (1 / 0)":                 "ErrZero",
		"1 / 0 - 1 / 0":               "ErrZero",
		"billion + 1":                 "ErrRange",
		"1 + billion":                 "ErrRange",
		"0 - billion - 1":             "ErrRange",
		"0 - 1 - billion":             "ErrRange",
		"billion + billionth":         "ErrRange",
		"billion + 1 - 1":             "ErrRange",
		"500000000 * 3":               "ErrRange",
		"500000001 * 2":               "ErrRange",
		"billion * billion":           "ErrRange",
		"billion * (0 - 2)":           "ErrRange",
		"billion * 2 / 2":             "ErrRange",
		"0 * (billion * 2)":           "ErrRange",
		"billionth / 2":               "ErrRange",
		"billionth * billionth":       "ErrRange",
		"billionth / 2 * 2":           "ErrRange",
		"1 / 31623 * (1 / 31623)":     "ErrRange",
		"billion / 0.5":               "ErrRange",
		"2 / billionth":               "ErrRange",
		"1 / 999999999 + billionth":   "ErrRange",
		"10000000 money + 0.01 money": "ErrRange",
		"10000000 money * m":          "ErrRange",
	} {
		expectValue(t, source, want)
	}
}

// P13.2: the lesser and the greater one, also of equal numbers.
func TestLeastAndGreatest(t *testing.T) {
	for operands, want := range map[string][2]string{
		"k, 2":                       {"2", "3"},
		"2, k":                       {"2", "3"},
		"k, 4":                       {"3", "4"},
		"4, k":                       {"3", "4"},
		"k, 3":                       {"3", "3"},
		"k, k":                       {"3", "3"},
		"0.5, 1 / 2":                 {"1/2", "1/2"},
		"0, 1 - 1":                   {"0", "0"},
		"0 - 1, 0":                   {"-1", "0"},
		"0 - 1, 0 - 2":               {"-2", "-1"},
		"0 - 2, 0 - 1":               {"-2", "-1"},
		"1 / 3, 333333333 / billion": {"333333333/1000000000", "1/3"},
		"2 / 3, 3 / 4":               {"2/3", "3/4"},
		"billion, 999999999":         {"999999999", "1000000000"},
		"0 - billion, billion":       {"-1000000000", "1000000000"},
		"m, 0.04 money":              {"4", "5"},
		"0 - billionth, 0":           {"-1/1000000000", "0"},
		"999999998 / billion, 999999998 / 999999999": {"499999999/500000000", "999999998/999999999"},
	} {
		expectValue(t, "min("+operands+")", want[0])
		expectValue(t, "max("+operands+")", want[1])
	}
}

// P13.2: comparisons of operands that are equal, and of those of which the first one is less or greater.
func TestComparisons(t *testing.T) {
	less := []string{"k, 4", "0 - 1, 0", "0 - 2, 0 - 1", "1 / 3, 0.5", "333333333 / billion, 1 / 3", "0 - billion, billion", "999999999, billion", "m, 0.06 money", "a, d / 1 days * 1 area"}
	equal := []string{"k, 3", "k, k", "0, 1 - 1", "1 / 3, 2 / 6", "0.5, 1 / 2", "billion, billion", "m, 0.05 money", "d, 6 days", "0 - 0.5, 0.5 - 1"}
	expect := func(a, b, want string) {
		t.Helper()
		for i, sign := range []string{" = ", " != ", " < ", " <= ", " > ", " >= "} {
			expectValue(t, a+sign+b, want[i:i+1])
		}
	}
	for _, operands := range less {
		a, b, _ := strings.Cut(operands, ", ")
		expect(a, b, "011100")
		expect(b, a, "010011")
	}
	for _, operands := range equal {
		a, b, _ := strings.Cut(operands, ", ")
		expect(a, b, "100101")
		expect(b, a, "100101")
	}
	for source, want := range map[string]string{
		"true = true":        "1",
		"true != true":       "0",
		"(1 < 0) = (1 < 0)":  "1",
		"(1 < 0) != (1 < 0)": "0",
		"true = (1 < 0)":     "0",
		"true != (1 < 0)":    "1",
		"(1 < 0) = true":     "0",
		"(1 < 0) != true":    "1",
		"p = true":           "1",
		"p != (not p)":       "1",
	} {
		expectValue(t, source, want)
	}
}

// Operands of the tables below: two numbers or flags, and two errors, as the letters of their columns and lines.
const outcomes = "01ZR"

// flagOf is a flag with an outcome.
func flagOf(outcome byte) string {
	switch outcome {
	case '0':
		return "(k < 3)"
	case '1':
		return "(k = 3)"
	case 'Z':
		return "(1 / (k - 3) = k)"
	}
	return "(k * billion <= 1)"
}

// numberOf is a number with an outcome.
func numberOf(outcome byte) string {
	switch outcome {
	case '0':
		return "(k - 3)"
	case '1':
		return "(k - 2)"
	case 'Z':
		return "(1 / (k - 3))"
	}
	return "(k * billion)"
}

// outcomeText is how an outcome is written.
func outcomeText(outcome byte) string {
	switch outcome {
	case 'Z':
		return "ErrZero"
	case 'R':
		return "ErrRange"
	}
	return string(outcome)
}

// expectTable expects the outcomes of a source in which a and b stand for operands, a line for each one of the first.
func expectTable(t *testing.T, source string, operand func(byte) string, table ...string) {
	t.Helper()
	for i, line := range table {
		for j := range len(line) {
			full := strings.NewReplacer("A", operand(outcomes[i]), "B", operand(outcomes[j])).Replace(source)
			expectValue(t, full, outcomeText(line[j]))
		}
	}
}

// P13.1 and P13.2: the first error of an operand is the error of the whole, whichever the other one is.
func TestErrorsOfOperands(t *testing.T) {
	// The lines behind the first two are the same for all of these operators.
	for source, table := range map[string][2]string{
		"A + B":           {"01ZR", "12ZR"},
		"A - B + 1":       {"10ZR", "21ZR"},
		"A * B":           {"00ZR", "01ZR"},
		"A / (B + 1) * 2": {"00ZR", "21ZR"},
		"A / (1 - B)":     {"0ZZR", "1ZZR"},
		"min(A, B)":       {"00ZR", "01ZR"},
		"max(A, B)":       {"01ZR", "11ZR"},
		"A = B":           {"10ZR", "01ZR"},
		"A != B":          {"01ZR", "10ZR"},
		"A < B":           {"01ZR", "00ZR"},
		"A <= B":          {"11ZR", "01ZR"},
		"0 * A + 0 * B":   {"00ZR", "00ZR"},
	} {
		expectTable(t, source, numberOf, table[0], table[1], "ZZZZ", "RRRR")
	}
	expectTable(t, "A = B", flagOf, "10ZR", "01ZR", "ZZZZ", "RRRR")
	expectTable(t, "A != B", flagOf, "01ZR", "10ZR", "ZZZZ", "RRRR")
	// The operands of > and >= stand the other way round in the tree.
	expectTable(t, "A > B", numberOf, "00ZR", "10ZR", "ZZZR", "RRZR")
	expectTable(t, "A >= B", numberOf, "10ZR", "11ZR", "ZZZR", "RRZR")
}

// P13.1 and P13.2: an operand that does not decide is not computed, and its error does not matter; the error of one that decides does.
func TestOperandsThatDecide(t *testing.T) {
	expectTable(t, "A and B", flagOf, "0000", "01ZR", "ZZZZ", "RRRR")
	expectTable(t, "A or B", flagOf, "01ZR", "1111", "ZZZZ", "RRRR")
	expectTable(t, "not A", flagOf, "1111", "0000", "ZZZZ", "RRRR")
	expectTable(t, "not B", flagOf, "10ZR", "10ZR", "10ZR", "10ZR")
	for _, operand := range []func(byte) string{flagOf, numberOf} {
		expectTable(t, "if k < 3 then A else B", operand, "01ZR", "01ZR", "01ZR", "01ZR")
		expectTable(t, "if k = 3 then A else B", operand, "0000", "1111", "ZZZZ", "RRRR")
		expectTable(t, "if 1 / (k - 3) = 1 then A else B", operand, "ZZZZ", "ZZZZ", "ZZZZ", "ZZZZ")
		expectTable(t, "if k * billion = 1 then A else B", operand, "RRRR", "RRRR", "RRRR", "RRRR")
	}
	// Some levels further down, and as the condition of another one.
	expectTable(t, "(A and B) or B", flagOf, "01ZR", "01ZR", "ZZZZ", "RRRR")
	expectTable(t, "A or B and A", flagOf, "00ZR", "1111", "ZZZZ", "RRRR")
	expectTable(t, "if A or B then 1 else 0", flagOf, "01ZR", "1111", "ZZZZ", "RRRR")
	expectTable(t, "not (A and B)", flagOf, "1111", "10ZR", "ZZZZ", "RRRR")
	expectTable(t, "if A then (if B then 1 else 0) else 1 / 0", flagOf, "ZZZZ", "01ZR", "ZZZZ", "RRRR")
	expectTable(t, "min(if A then 1 else 0, if B then 1 else 0)", flagOf, "00ZR", "01ZR", "ZZZZ", "RRRR")
}

// P13.1: nodes that are made by hand, with the units of the chapter and fields that no source has.
func TestNodes(t *testing.T) {
	cents := api.Node{Op: api.OpNumber, N: api.Rat{N: 300, D: 1}, Unit: api.Unit{Money: 1}, At: -5}
	rent := api.Node{Op: api.OpFact, Name: "rent", At: 1 << 40}
	l := []api.Decl{{Name: "rent", Unit: api.Unit{Money: 1}, Hi: 500, At: -7}}
	for i, want := range map[int]string{0: "1", 299: "1", 300: "0", 500: "0"} {
		expectNode(t, l, node(api.OpLt, rent, cents), []int{i}, want)
	}
	expectNode(t, l, node(api.OpDiv, cents, rent), []int{0}, "ErrZero")
	expectNode(t, l, node(api.OpDiv, cents, rent), []int{7}, "300/7")
	expectNode(t, l, node(api.OpIf, node(api.OpTrue), cents, node(api.OpDiv, rent, api.Node{Op: api.OpNumber, N: api.Rat{N: 0, D: 1}})), []int{7}, "300")
	// A list of operands that is empty is as good as none.
	bare := api.Node{Op: api.OpTrue, Kids: []api.Node{}}
	expectNode(t, nil, bare, nil, "1")
	expectNode(t, []api.Decl{}, bare, []int{}, "1")
	expectNode(t, nil, node(api.OpNot, bare), []int{}, "0")
	if n, e := evaluate.Value(nil, api.Node{Op: api.OpNumber, N: api.Rat{N: 2, D: 3}}, nil); n != (api.Rat{N: 2, D: 3}) || e != api.OK {
		t.Error(n, e)
	}
}

// balanced is an expression with so many leaves, that are all the same, and one node less above them.
func balanced(op, leaves int, leaf api.Node) api.Node {
	if leaves == 1 {
		return leaf
	}
	return node(op, balanced(op, leaves/2, leaf), balanced(op, leaves-leaves/2, leaf))
}

// P13.1: expressions as large and as deep as they can be, and beyond that.
func TestLargeExpressions(t *testing.T) {
	deep := expression("k")
	for range 19 {
		deep = node(api.OpAdd, deep, expression("1"))
	}
	expectNode(t, house(), deep, tenant(), "22")
	expectNode(t, house(), node(api.OpAdd, deep, expression("1")), tenant(), "ErrArg")
	expectNode(t, house(), balanced(api.OpAdd, 100, expression("k")), tenant(), "300")
	expectNode(t, house(), balanced(api.OpMul, 100, expression("1")), tenant(), "1")
	expectNode(t, house(), balanced(api.OpAdd, 101, expression("k")), tenant(), "ErrArg")
	wide := node(api.OpNot, balanced(api.OpAnd, 100, expression("p")))
	expectNode(t, house(), wide, tenant(), "0")
	expectNode(t, house(), node(api.OpNot, wide), tenant(), "ErrArg")
}
