package printer_test

import (
	"slices"
	"strings"
	"testing"

	"cohousing/api"
	"cohousing/parser"
	"cohousing/printer"
)

// isRead reports whether a text is an expression, and this one.
func isRead(text string, n api.Node) bool {
	back, e, _ := parser.Expr(text)
	return e == api.OK && isSame(back, n)
}

// round has round brackets for square ones.
func round(text string) string { return strings.NewReplacer("[", "(", "]", ")").Replace(text) }

// partner is the index of the bracket that closes the one with an index.
func partner(text string, open int) int {
	depth := 0
	for i, c := range text[open:] {
		switch c {
		case '(', '[':
			depth++
		case ')', ']':
			depth--
		}
		if depth == 0 {
			return open + i
		}
	}
	return -1
}

// without is a text without two of its bytes.
func without(text string, i, j int) string { return text[:i] + text[i+1:j] + text[j+1:] }

// fewest is the text of an expression that remains of the one with brackets around each operand if all those are left out without which it is still read as the same one; they are tried from the left or from the right.
func fewest(n api.Node, isFromRight bool) string {
	text := bracketed(n)
	var open []int
	for i, c := range text {
		if c == '[' {
			open = append(open, i)
		}
	}
	if isFromRight {
		slices.Reverse(open)
	}
	gone := make([]bool, len(text))
	rest := func() string {
		var kept strings.Builder
		for i := range text {
			if !gone[i] {
				kept.WriteByte(text[i])
			}
		}
		return round(kept.String())
	}
	for _, i := range open {
		j := partner(text, i)
		gone[i], gone[j] = true, true
		if !isRead(rest(), n) {
			gone[i], gone[j] = false, false
		}
	}
	return rest()
}

// isTight holds the text of an expression against the ones with the fewest brackets, by the levels and by the parser, and reads it back.
func isTight(t *testing.T, n api.Node) {
	t.Helper()
	text, e := printer.Expr(n)
	if want := wantedExpr(n); text != want || e != api.OK {
		t.Fatalf("%v: got %q, %v; want %q", n, text, e, want)
	}
	if !isRead(text, n) {
		t.Fatalf("%q is not %v", text, n)
	}
	if left, right := fewest(n, false), fewest(n, true); text != left || text != right {
		t.Fatalf("got %q; with the fewest brackets: %q, %q", text, left, right)
	}
}

// P10.1: operands of each level at each place; those that have no brackets there are listed by their texts.
func TestPlaces(t *testing.T) {
	operands := map[string]api.Node{
		"if x then y else z": node(api.OpIf, name("x"), name("y"), name("z")),
		"x or y":             node(api.OpOr, name("x"), name("y")),
		"x and y":            node(api.OpAnd, name("x"), name("y")),
		"not x":              not(name("x")),
		"x < y":              node(api.OpLt, name("x"), name("y")),
		"x + y":              node(api.OpAdd, name("x"), name("y")),
		"x * y":              node(api.OpMul, name("x"), name("y")),
		"min(x, y)":          node(api.OpMin, name("x"), name("y")),
		"x":                  name("x"),
		"0.05 money":         cents(5),
		"true":               yes(),
	}
	a, b := name("a"), name("b")
	everywhere := []string{"min(x, y)", "x", "0.05 money", "true"}
	term := append(slices.Clone(everywhere), "x * y")
	sum := append(slices.Clone(term), "x + y")
	negation := append(slices.Clone(sum), "x < y", "not x")
	and := append(slices.Clone(negation), "x and y")
	or := append(slices.Clone(and), "x or y")
	all := append(slices.Clone(or), "if x then y else z")
	for _, x := range []struct {
		text  string
		whole func(n api.Node) api.Node
		bare  []string
	}{
		{"if . then a else b", func(n api.Node) api.Node { return node(api.OpIf, n, a, b) }, all},
		{"if a then . else b", func(n api.Node) api.Node { return node(api.OpIf, a, n, b) }, all},
		{"if a then b else .", func(n api.Node) api.Node { return node(api.OpIf, a, b, n) }, all},
		{"min(., a)", func(n api.Node) api.Node { return node(api.OpMin, n, a) }, all},
		{"min(a, .)", func(n api.Node) api.Node { return node(api.OpMin, a, n) }, all},
		{"max(., a)", func(n api.Node) api.Node { return node(api.OpMax, n, a) }, all},
		{"max(a, .)", func(n api.Node) api.Node { return node(api.OpMax, a, n) }, all},
		{". or a", func(n api.Node) api.Node { return node(api.OpOr, n, a) }, or},
		{"a or .", func(n api.Node) api.Node { return node(api.OpOr, a, n) }, and},
		{". and a", func(n api.Node) api.Node { return node(api.OpAnd, n, a) }, and},
		{"a and .", func(n api.Node) api.Node { return node(api.OpAnd, a, n) }, negation},
		{"not .", not, negation},
		{". = a", func(n api.Node) api.Node { return node(api.OpEq, n, a) }, sum},
		{"a = .", func(n api.Node) api.Node { return node(api.OpEq, a, n) }, sum},
		{". != a", func(n api.Node) api.Node { return node(api.OpNe, n, a) }, sum},
		{"a != .", func(n api.Node) api.Node { return node(api.OpNe, a, n) }, sum},
		{". < a", func(n api.Node) api.Node { return node(api.OpLt, n, a) }, sum},
		{"a < .", func(n api.Node) api.Node { return node(api.OpLt, a, n) }, sum},
		{". <= a", func(n api.Node) api.Node { return node(api.OpLe, n, a) }, sum},
		{"a <= .", func(n api.Node) api.Node { return node(api.OpLe, a, n) }, sum},
		{". + a", func(n api.Node) api.Node { return node(api.OpAdd, n, a) }, sum},
		{"a + .", func(n api.Node) api.Node { return node(api.OpAdd, a, n) }, term},
		{". - a", func(n api.Node) api.Node { return node(api.OpSub, n, a) }, sum},
		{"a - .", func(n api.Node) api.Node { return node(api.OpSub, a, n) }, term},
		{". * a", func(n api.Node) api.Node { return node(api.OpMul, n, a) }, term},
		{"a * .", func(n api.Node) api.Node { return node(api.OpMul, a, n) }, everywhere},
		{". / a", func(n api.Node) api.Node { return node(api.OpDiv, n, a) }, term},
		{"a / .", func(n api.Node) api.Node { return node(api.OpDiv, a, n) }, everywhere},
	} {
		for text, n := range operands {
			if !slices.Contains(x.bare, text) {
				text = "(" + text + ")"
			}
			expectExpr(t, map[string]api.Node{strings.Replace(x.text, ".", text, 1): x.whole(n)})
		}
	}
}

// P10.1: rows of operators, comparisons within comparisons, and OpNot and OpIf in each other.
func TestRows(t *testing.T) {
	a, b, c, d := name("a"), name("b"), name("c"), name("d")
	less := node(api.OpLt, a, b)
	choice := node(api.OpIf, a, b, c)
	expectExpr(t, map[string]api.Node{
		"a - b - c - d":                   node(api.OpSub, node(api.OpSub, node(api.OpSub, a, b), c), d),
		"a - (b - (c - d))":               node(api.OpSub, a, node(api.OpSub, b, node(api.OpSub, c, d))),
		"a - b - (c - d)":                 node(api.OpSub, node(api.OpSub, a, b), node(api.OpSub, c, d)),
		"a - (b - c) - d":                 node(api.OpSub, node(api.OpSub, a, node(api.OpSub, b, c)), d),
		"a - (b - c - d)":                 node(api.OpSub, a, node(api.OpSub, node(api.OpSub, b, c), d)),
		"a + b - c":                       node(api.OpSub, node(api.OpAdd, a, b), c),
		"a + (b - c)":                     node(api.OpAdd, a, node(api.OpSub, b, c)),
		"a + (b + c)":                     node(api.OpAdd, a, node(api.OpAdd, b, c)),
		"a / b * c":                       node(api.OpMul, node(api.OpDiv, a, b), c),
		"a / (b * c)":                     node(api.OpDiv, a, node(api.OpMul, b, c)),
		"a * (b / c)":                     node(api.OpMul, a, node(api.OpDiv, b, c)),
		"a * b + c / d":                   node(api.OpAdd, node(api.OpMul, a, b), node(api.OpDiv, c, d)),
		"a * (b + c) / d":                 node(api.OpDiv, node(api.OpMul, a, node(api.OpAdd, b, c)), d),
		"a and b and c":                   node(api.OpAnd, node(api.OpAnd, a, b), c),
		"a and (b and c)":                 node(api.OpAnd, a, node(api.OpAnd, b, c)),
		"a or b or c":                     node(api.OpOr, node(api.OpOr, a, b), c),
		"a or (b or c)":                   node(api.OpOr, a, node(api.OpOr, b, c)),
		"(a or b) and c":                  node(api.OpAnd, node(api.OpOr, a, b), c),
		"a or b and c":                    node(api.OpOr, a, node(api.OpAnd, b, c)),
		"(a < b) < c":                     node(api.OpLt, less, c),
		"c < (a < b)":                     node(api.OpLt, c, less),
		"(a < b) = (a < b)":               node(api.OpEq, less, less),
		"((a < b) <= c) != (d = (a < b))": node(api.OpNe, node(api.OpLe, less, c), node(api.OpEq, d, less)),
		"not not not a":                   not(not(not(a))),
		"not a < b":                       not(less),
		"(not a) < b":                     node(api.OpLt, not(a), b),
		"a < (not b)":                     node(api.OpLt, a, not(b)),
		"not a and not b":                 node(api.OpAnd, not(a), not(b)),
		"not (not a and b)":               not(node(api.OpAnd, not(a), b)),
		"not not (a or b)":                not(not(node(api.OpOr, a, b))),
		"not (if a then b else c)":        not(choice),
		"if not a then not b else not c":  node(api.OpIf, not(a), not(b), not(c)),
		"if if a then b else c then if a then b else c else if a then b else c": node(api.OpIf, choice, choice, choice),
		"(if a then b else c) or (if a then b else c)":                          node(api.OpOr, choice, choice),
		"if a then b else c or d":                                               node(api.OpIf, a, b, node(api.OpOr, c, d)),
		"(if a then b else c) or d":                                             node(api.OpOr, choice, d),
		"min(if a then b else c, if a then b else c)":                           node(api.OpMin, choice, choice),
		"min(a or b, not c) + max(a < b, (a < b) < c)":                          node(api.OpAdd, node(api.OpMin, node(api.OpOr, a, b), not(c)), node(api.OpMax, less, node(api.OpLt, less, c))),
		"min(min(a, b), max(c, d))":                                             node(api.OpMin, node(api.OpMin, a, b), node(api.OpMax, c, d)),
		"(a + b) * min((a + b) * c, c)":                                         node(api.OpMul, node(api.OpAdd, a, b), node(api.OpMin, node(api.OpMul, node(api.OpAdd, a, b), c), c)),
		"not min(a, b)":                                                         not(node(api.OpMin, a, b)),
		"if min(a, b) then 0.05 money else (a < b) < c":                         node(api.OpIf, node(api.OpMin, a, b), cents(5), node(api.OpLt, less, c)),
		"((a or b) and c or d) * 2 days":                                        node(api.OpMul, node(api.OpOr, node(api.OpAnd, node(api.OpOr, a, b), c), d), of("days", number(2, 1))),
		"1 area / (2 money * (3 - a))":                                          node(api.OpDiv, of("area", number(1, 1)), node(api.OpMul, cents(200), node(api.OpSub, number(3, 1), a))),
	})
}

// P10.1 and P10.4: each operator, and each leaf, at each place of each other one, and of each other one there.
func TestEachInEach(t *testing.T) {
	for _, outer := range every() {
		isTight(t, outer)
		for i := range outer.Kids {
			for _, inner := range every() {
				n := outer
				n.Kids = slices.Clone(outer.Kids)
				n.Kids[i] = inner
				isTight(t, n)
				for j := range inner.Kids {
					for _, last := range every() {
						m := inner
						m.Kids = slices.Clone(inner.Kids)
						m.Kids[j] = last
						n.Kids[i] = m
						isTight(t, n)
					}
				}
			}
		}
	}
}

// P10.1 and P10.4: two operands of one operator, each of which has each operator.
func TestBothOperands(t *testing.T) {
	for op := api.OpAdd; op <= api.OpOr; op++ {
		for _, left := range every() {
			for _, right := range every() {
				isTight(t, node(op, left, right))
				isTight(t, not(node(op, left, right)))
				isTight(t, node(api.OpIf, left, node(op, right, left), right))
			}
		}
	}
}

// P10.4: of the text of any expression, no pair of brackets around an operand can be left out.
func TestNoBracketsTooMany(t *testing.T) {
	count := 0
	trees(func(n api.Node) {
		text, e := printer.Expr(n)
		if e != api.OK {
			t.Fatalf("%v: %v", n, e)
		}
		for i := range text {
			if text[i] != '(' || strings.HasSuffix(text[:i], "min") || strings.HasSuffix(text[:i], "max") {
				continue
			}
			if less := without(text, i, partner(text, i)); isRead(less, n) {
				t.Fatalf("%q is the same expression as %q", less, text)
			}
			count++
		}
	})
	if count < 10000 {
		t.Errorf("only %d pairs of brackets", count)
	}
}

// P10.1 and P10.4: small trees with the fewest brackets.
func TestFewestBrackets(t *testing.T) {
	r := dice()
	for i := range 4000 {
		if n := anyTree(r, 1+i%5); size(n) < 40 {
			isTight(t, n)
		}
	}
}
