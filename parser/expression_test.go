package parser_test

import (
	"strings"
	"testing"

	"cohousing/api"
)

// P9.1: numbers with each unit, and with none; with money they are cents.
func TestNumbers(t *testing.T) {
	expectExpr(t, map[string]api.Node{
		"0":                 number(0, 0, 1),
		"7":                 number(0, 7, 1),
		"999999999":         number(0, 999999999, 1),
		"0.5":               number(0, 1, 2),
		"12.34":             number(0, 617, 50),
		"1 number":          number(0, 1, 1),
		"1 flag":            of("flag", number(0, 1, 1)),
		"1 money":           of("money", number(0, 100, 1)),
		"1 area":            of("area", number(0, 1, 1)),
		"1 days":            of("days", number(0, 1, 1)),
		"0.25 number":       number(0, 1, 4),
		"0.25 flag":         of("flag", number(0, 1, 4)),
		"0.25 money":        of("money", number(0, 25, 1)),
		"0.25 area":         of("area", number(0, 1, 4)),
		"0.25 days":         of("days", number(0, 1, 4)),
		"0 money":           of("money", number(0, 0, 1)),
		"0.00 money":        of("money", number(0, 0, 1)),
		"0.01 money":        of("money", number(0, 1, 1)),
		"0.5 money":         of("money", number(0, 50, 1)),
		"12.50 money":       of("money", number(0, 1250, 1)),
		" 1#x\n money":      of("money", number(1, 100, 1)),
		"10000000 money":    of("money", number(0, 1000000000, 1)),
		"10000000.00 money": of("money", number(0, 1000000000, 1)),
		"9999999.99 money":  of("money", number(0, 999999999, 1)),
		"9999999.5 money":   of("money", number(0, 999999950, 1)),
		"999999999 number":  number(0, 999999999, 1),
		"499999999.5 area":  of("area", number(0, 999999999, 2)),
		"999999999 days":    of("days", number(0, 999999999, 1)),
		"10000001 flag":     of("flag", number(0, 10000001, 1)),
		"10000001":          number(0, 10000001, 1),
	})
}

// P9.1: numbers of money whose cents are no valid number.
func TestCents(t *testing.T) {
	for _, text := range []string{"10000001", "10000000.5", "10000000.25", "19999999.98", "100000000", "499999999.5", "999999999", "99999999.9", "010000001.00"} {
		refuseExpr(t, map[string]api.Diag{
			text + " money":                 diag(api.ErrRange, 0),
			"1 money + (" + text + " money": diag(api.ErrRange, 11),
			text + " money )":               diag(api.ErrRange, 0),
			text + " money money":           diag(api.ErrRange, 0),
			text + " money + " + text:       diag(api.ErrRange, 0),
			"a < b <" + text + " money":     syntax(6),
			"{" + text + " money":           syntax(0),
			"(" + text + ") money":          syntax(len(text) + 3),
			text + " 1 money":               syntax(len(text) + 1),
			text + " area money":            syntax(len(text) + 6),
		})
		refuse(t, map[string][]api.Diag{
			"ban a 1 from 0 known 0 when " + text + " money; ;":   {diag(api.ErrRange, 28), syntax(36 + len(text))},
			"ban a 1 from 0 known 0 give " + text + " money = 1;": {diag(api.ErrRange, 28)},
			"ban a 1 from 0 known 0 give " + text + " money":      {diag(api.ErrRange, 28)},
		})
	}
}

// P9.1: all reserved words, alone and where a name can stand.
func TestReservedWords(t *testing.T) {
	for _, word := range strings.Fields(reserved) {
		if word != "true" && word != "not" && word != "if" && word != "min" && word != "max" {
			refuseExpr(t, map[string]api.Diag{word: syntax(0), "(" + word + ")": syntax(1), "a + " + word + " * b": syntax(4)})
		}
		refuse(t, map[string][]api.Diag{
			word + " a 1 from 0 known 0;":              {syntax(0)},
			"fact " + word + ": flag 0 to 1;":          {syntax(5)},
			"duty " + word + " 1 from 0 known 0;":      {syntax(5)},
			"duty a 1 about " + word + " from 0;":      {syntax(15)},
			"duty a 1 from 0 known 0 " + word + " a )": {syntax(behind(word))},
		})
	}
	for _, word := range []string{"not", "if"} {
		refuseExpr(t, map[string]api.Diag{word: syntax(len(word)), "(" + word + ")": syntax(1 + len(word)), "a + " + word: syntax(4)})
	}
	for _, word := range []string{"min", "max"} {
		refuseExpr(t, map[string]api.Diag{word: syntax(3), "(" + word + ")": syntax(4), "a + " + word + " * b": syntax(8)})
	}
}

// behind is where `duty a 1 from 0 known 0` with a reserved word, a name and a bracket has its error.
func behind(word string) int {
	if word == "when" || word == "give" {
		return 24 + len(word) + 3
	}
	return 24
}

// P9.1: words that are not reserved are names, also those that begin declarations.
func TestNames(t *testing.T) {
	for _, word := range append(kinds(), "fact", "a", "z9_", "abcdefghijklmnop", "iff", "tru", "truer", "unit", "expr", "to_", "min1", "x") {
		expectExpr(t, map[string]api.Node{
			word:                        name(0, word),
			" (" + word + " )":          name(2, word),
			word + "*" + word:           pair(api.OpMul, 0, name(0, word), name(len(word)+1, word)),
			"min(" + word + ", " + "b)": pair(api.OpMin, 0, name(4, word), name(6+len(word), "b")),
		})
		u := plain(0, word)
		u.Act, u.Kind = word, 3
		expect(t, map[string]api.Codex{
			"fact " + word + ": number 1 to 2;":                                  facts(api.Decl{Name: word, Lo: 1, Hi: 2}),
			"duty " + word + " 1 about " + word + " from 0 until 36525 known 0;": rules(u),
		})
	}
}

// sign is an operator between two operands: how tightly it binds, and its node.
type sign struct {
	text        string
	level, op   int
	isExchanged bool
}

func signs() []sign {
	return []sign{
		{"or", 1, api.OpOr, false}, {"and", 2, api.OpAnd, false},
		{"=", 4, api.OpEq, false}, {"!=", 4, api.OpNe, false}, {"<", 4, api.OpLt, false}, {"<=", 4, api.OpLe, false}, {">", 4, api.OpLt, true}, {">=", 4, api.OpLe, true},
		{"+", 5, api.OpAdd, false}, {"-", 5, api.OpSub, false}, {"*", 6, api.OpMul, false}, {"/", 6, api.OpDiv, false},
	}
}

// notLevel is how tightly `not` binds.
const notLevel = 3

func (s sign) node(at int, a, b api.Node) api.Node {
	if s.isExchanged {
		a, b = b, a
	}
	return pair(s.op, at, a, b)
}

// P9.1 and P9.7: every operator.
func TestOperators(t *testing.T) {
	for _, s := range signs() {
		n := len(s.text)
		expectExpr(t, map[string]api.Node{
			"a " + s.text + " b":      s.node(0, name(0, "a"), name(n+3, "b")),
			"(1) " + s.text + " (2)":  s.node(0, number(1, 1, 1), number(n+6, 2, 1)),
			"((a " + s.text + " a))":  s.node(2, name(2, "a"), name(n+5, "a")),
			" true " + s.text + " 1 ": s.node(1, yes(1), number(n+7, 1, 1)),
		})
		refuseExpr(t, map[string]api.Diag{
			s.text:                     syntax(0),
			s.text + " a":              syntax(0),
			"a " + s.text:              syntax(2 + n),
			"a " + s.text + " ":        syntax(3 + n),
			"a " + s.text + " )":       syntax(3 + n),
			"a " + s.text + " * b":     syntax(3 + n),
			"(a " + s.text + ") b":     syntax(3 + n),
			"min(a " + s.text + ", b)": syntax(6 + n),
		})
	}
	expectExpr(t, map[string]api.Node{
		"true":                 yes(0),
		"not a":                not(0, name(4, "a")),
		"not not true":         not(0, not(4, yes(8))),
		"min(a, b)":            pair(api.OpMin, 0, name(4, "a"), name(7, "b")),
		"max (1,2 )":           pair(api.OpMax, 0, number(5, 1, 1), number(7, 2, 1)),
		"if a then b else c":   choice(0, name(3, "a"), name(10, "b"), name(17, "c")),
		"a>=b":                 pair(api.OpLe, 0, name(3, "b"), name(0, "a")),
		"a+1>b*2":              pair(api.OpLt, 0, pair(api.OpMul, 4, name(4, "b"), number(6, 2, 1)), pair(api.OpAdd, 0, name(0, "a"), number(2, 1, 1))),
		"(a)>(b)":              pair(api.OpLt, 0, name(5, "b"), name(1, "a")),
		"not a > b":            not(0, pair(api.OpLt, 4, name(8, "b"), name(4, "a"))),
		"(a > b) > (c >= d)":   pair(api.OpLt, 0, pair(api.OpLe, 11, name(16, "d"), name(11, "c")), pair(api.OpLt, 1, name(5, "b"), name(1, "a"))),
		"a > b and b >= c":     pair(api.OpAnd, 0, pair(api.OpLt, 0, name(4, "b"), name(0, "a")), pair(api.OpLe, 10, name(15, "c"), name(10, "b"))),
		"a - b - c":            pair(api.OpSub, 0, pair(api.OpSub, 0, name(0, "a"), name(4, "b")), name(8, "c")),
		"a / b * c / d":        pair(api.OpDiv, 0, pair(api.OpMul, 0, pair(api.OpDiv, 0, name(0, "a"), name(4, "b")), name(8, "c")), name(12, "d")),
		"a - (b - c)":          pair(api.OpSub, 0, name(0, "a"), pair(api.OpSub, 5, name(5, "b"), name(9, "c"))),
		"a or b and c or true": pair(api.OpOr, 0, pair(api.OpOr, 0, name(0, "a"), pair(api.OpAnd, 5, name(5, "b"), name(11, "c"))), yes(16)),
	})
}

// P9.1 and P9.7: all pairs of operators between operands; a comparison behind a comparison cannot stand.
func TestPairsOfLevels(t *testing.T) {
	for _, s := range signs() {
		for _, z := range signs() {
			source := "a " + s.text + " b " + z.text + " c"
			b := 3 + len(s.text)
			c := b + 3 + len(z.text)
			left := z.node(0, s.node(0, name(0, "a"), name(b, "b")), name(c, "c"))
			right := s.node(0, name(0, "a"), z.node(b, name(b, "b"), name(c, "c")))
			switch {
			case s.level == 4 && z.level == 4:
				refuseExpr(t, map[string]api.Diag{source: syntax(b + 2)})
			case s.level >= z.level:
				expectExpr(t, map[string]api.Node{source: left})
			default:
				expectExpr(t, map[string]api.Node{source: right})
			}
			left = z.node(0, s.node(1, name(1, "a"), name(b+1, "b")), name(c+2, "c"))
			right = s.node(0, name(0, "a"), z.node(b+1, name(b+1, "b"), name(c+1, "c")))
			expectExpr(t, map[string]api.Node{
				"(a " + s.text + " b) " + z.text + " c": left,
				"a " + s.text + " (b " + z.text + " c)": right,
			})
		}
	}
}

// P9.1 and P9.7: `not`, `if`, `min` and `max` before and behind each operator.
func TestPairsWithOthers(t *testing.T) {
	for _, s := range signs() {
		n := len(s.text)
		if s.level < notLevel {
			expectExpr(t, map[string]api.Node{
				"not a " + s.text + " b": s.node(0, not(0, name(4, "a")), name(7+n, "b")),
				"a " + s.text + " not b": s.node(0, name(0, "a"), not(3+n, name(7+n, "b"))),
			})
		} else {
			expectExpr(t, map[string]api.Node{"not a " + s.text + " b": not(0, s.node(4, name(4, "a"), name(7+n, "b")))})
			refuseExpr(t, map[string]api.Diag{"a " + s.text + " not b": syntax(3 + n)})
		}
		refuseExpr(t, map[string]api.Diag{"a " + s.text + " if b then c else d": syntax(3 + n)})
		expectExpr(t, map[string]api.Node{
			"(not a) " + s.text + " b":              s.node(0, not(1, name(5, "a")), name(9+n, "b")),
			"a " + s.text + " (not b)":              s.node(0, name(0, "a"), not(4+n, name(8+n, "b"))),
			"if a " + s.text + " b then c else d":   choice(0, s.node(3, name(3, "a"), name(6+n, "b")), name(13+n, "c"), name(20+n, "d")),
			"if a then b " + s.text + " c else d":   choice(0, name(3, "a"), s.node(10, name(10, "b"), name(13+n, "c")), name(20+n, "d")),
			"if a then b else c " + s.text + " d":   choice(0, name(3, "a"), name(10, "b"), s.node(17, name(17, "c"), name(20+n, "d"))),
			"(if a then b else c) " + s.text + " d": s.node(0, choice(1, name(4, "a"), name(11, "b"), name(18, "c")), name(22+n, "d")),
			"a " + s.text + " (if b then c else d)": s.node(0, name(0, "a"), choice(4+n, name(7+n, "b"), name(14+n, "c"), name(21+n, "d"))),
			"min(a, b) " + s.text + " c":            s.node(0, pair(api.OpMin, 0, name(4, "a"), name(7, "b")), name(11+n, "c")),
			"a " + s.text + " max(b, c)":            s.node(0, name(0, "a"), pair(api.OpMax, 3+n, name(7+n, "b"), name(10+n, "c"))),
			"max(a " + s.text + " b, c)":            pair(api.OpMax, 0, s.node(4, name(4, "a"), name(7+n, "b")), name(10+n, "c")),
			"min(a, b " + s.text + " c)":            pair(api.OpMin, 0, name(4, "a"), s.node(7, name(7, "b"), name(10+n, "c"))),
		})
	}
	expectExpr(t, map[string]api.Node{
		"not (if a then b else c)":                  not(0, choice(5, name(8, "a"), name(15, "b"), name(22, "c"))),
		"if not a then not b else not c":            choice(0, not(3, name(7, "a")), not(14, name(18, "b")), not(25, name(29, "c"))),
		"if if a then b else c then d else e":       choice(0, choice(3, name(6, "a"), name(13, "b"), name(20, "c")), name(27, "d"), name(34, "e")),
		"if a then if b then c else d else e":       choice(0, name(3, "a"), choice(10, name(13, "b"), name(20, "c"), name(27, "d")), name(34, "e")),
		"if a then b else if c then d else e":       choice(0, name(3, "a"), name(10, "b"), choice(17, name(20, "c"), name(27, "d"), name(34, "e"))),
		"min(if a then b else c, max(not d, true))": pair(api.OpMin, 0, choice(4, name(7, "a"), name(14, "b"), name(21, "c")), pair(api.OpMax, 24, not(28, name(32, "d")), yes(35))),
		"not min(a, b)":                             not(0, pair(api.OpMin, 4, name(8, "a"), name(11, "b"))),
		"if min(a, b) then 1 money else 2 days":     choice(0, pair(api.OpMin, 3, name(7, "a"), name(10, "b")), of("money", number(18, 100, 1)), of("days", number(31, 2, 1))),
		"min(max(a, b), min(c, d))":                 pair(api.OpMin, 0, pair(api.OpMax, 4, name(8, "a"), name(11, "b")), pair(api.OpMin, 15, name(19, "c"), name(22, "d"))),
		"not a and not b or not c":                  pair(api.OpOr, 0, pair(api.OpAnd, 0, not(0, name(4, "a")), not(10, name(14, "b"))), not(19, name(23, "c"))),
		"a or b and not c = d + e * 2":              pair(api.OpOr, 0, name(0, "a"), pair(api.OpAnd, 5, name(5, "b"), not(11, pair(api.OpEq, 15, name(15, "c"), pair(api.OpAdd, 19, name(19, "d"), pair(api.OpMul, 23, name(23, "e"), number(27, 2, 1))))))),
		"a * b + c = d and e or f":                  pair(api.OpOr, 0, pair(api.OpAnd, 0, pair(api.OpEq, 0, pair(api.OpAdd, 0, pair(api.OpMul, 0, name(0, "a"), name(4, "b")), name(8, "c")), name(12, "d")), name(18, "e")), name(23, "f")),
	})
	refuseExpr(t, map[string]api.Diag{"not if a then b else c": syntax(4), "min(a) < b": syntax(5), "min(a, b, c)": syntax(8), "min a, b": syntax(4), "min()": syntax(4), "(min)(a, b)": syntax(4), "if a then b": syntax(11), "if a else b": syntax(5), "if a then b then c": syntax(12), "if then": syntax(3), "(a": syntax(2), "(a, b)": syntax(2), "()": syntax(1), "-1": syntax(0), "a - -1": syntax(4), "a b": syntax(2), "1 2": syntax(2), "true false": syntax(5), "a(b)": syntax(1), "(a)(b)": syntax(3), "not": syntax(3), "a not b": syntax(2)})
}

// P9.1: a comparison behind a comparison, also where brackets or other operators are near.
func TestRowsOfComparisons(t *testing.T) {
	for _, s := range signs()[2:8] {
		for _, z := range signs()[2:8] {
			n, m := len(s.text), len(z.text)
			refuseExpr(t, map[string]api.Diag{
				"(a) " + s.text + " (b) " + z.text + " (c)":       syntax(9 + n),
				"(a " + s.text + " b " + z.text + " c)":           syntax(6 + n),
				"not a " + s.text + " b " + z.text + " c":         syntax(9 + n),
				"a + b " + s.text + " c * d " + z.text + " e":     syntax(13 + n),
				"a or b " + s.text + " c " + z.text + " d or e":   syntax(10 + n),
				"min(a " + s.text + " b " + z.text + " c, d)":     syntax(9 + n),
				"if a " + s.text + " b " + z.text + " c then d":   syntax(8 + n),
				"a " + s.text + " (b " + z.text + " c) = d":       syntax(10 + n + m),
				"(a " + s.text + " b) " + z.text + " c " + s.text: syntax(10 + n + m),
			})
			refuse(t, map[string][]api.Diag{
				"ban a 1 from 0 known 0 when a " + s.text + " b " + z.text + " c; ;": {syntax(33 + n), syntax(37 + n + m)},
				"ban a 1 from 0 known 0 give a " + s.text + " b " + z.text + " c":    {syntax(33 + n)},
			})
			both := pair(api.OpAnd, 0, s.node(0, name(0, "a"), name(3+n, "b")), z.node(9+n, name(9+n, "c"), name(12+n+m, "d")))
			expectExpr(t, map[string]api.Node{"a " + s.text + " b and c " + z.text + " d": both})
		}
	}
}

// P9.1 and P9.6: byte offsets with brackets around expressions, operands, and operands of operands.
func TestBrackets(t *testing.T) {
	a, b := func(at int) api.Node { return name(at, "a") }, func(at int) api.Node { return name(at, "b") }
	expectExpr(t, map[string]api.Node{
		"(a)":                           a(1),
		"( ( (a) ) )":                   a(5),
		"(1 money)":                     of("money", number(1, 100, 1)),
		"(true)":                        yes(1),
		"(a + b)":                       pair(api.OpAdd, 1, a(1), b(5)),
		"((a + b))":                     pair(api.OpAdd, 2, a(2), b(6)),
		"(a) + b":                       pair(api.OpAdd, 0, a(1), b(6)),
		"((a)) + ((b))":                 pair(api.OpAdd, 0, a(2), b(10)),
		"((a) + (b))":                   pair(api.OpAdd, 1, a(2), b(8)),
		"(a + b) * a":                   pair(api.OpMul, 0, pair(api.OpAdd, 1, a(1), b(5)), a(10)),
		"((a) + b) * a":                 pair(api.OpMul, 0, pair(api.OpAdd, 1, a(2), b(7)), a(12)),
		"(((a) + b) * a)":               pair(api.OpMul, 1, pair(api.OpAdd, 2, a(3), b(8)), a(13)),
		"a * (b + (a))":                 pair(api.OpMul, 0, a(0), pair(api.OpAdd, 5, b(5), a(10))),
		"a * ((b) + a)":                 pair(api.OpMul, 0, a(0), pair(api.OpAdd, 5, b(6), a(11))),
		"(a) + b + a":                   pair(api.OpAdd, 0, pair(api.OpAdd, 0, a(1), b(6)), a(10)),
		"((a) + b) + a":                 pair(api.OpAdd, 0, pair(api.OpAdd, 1, a(2), b(7)), a(12)),
		"a + (b + a)":                   pair(api.OpAdd, 0, a(0), pair(api.OpAdd, 5, b(5), a(9))),
		"not (a)":                       not(0, a(5)),
		"(not a)":                       not(1, a(5)),
		"(not (not (a)))":               not(1, not(6, a(11))),
		"not (a = b)":                   not(0, pair(api.OpEq, 5, a(5), b(9))),
		"(not a) = b":                   pair(api.OpEq, 0, not(1, a(5)), b(10)),
		"(a > b)":                       pair(api.OpLt, 1, b(5), a(1)),
		"((a) > b)":                     pair(api.OpLt, 1, b(7), a(2)),
		"(a) >= (b)":                    pair(api.OpLe, 0, b(8), a(1)),
		"(a + b) > a":                   pair(api.OpLt, 0, a(10), pair(api.OpAdd, 1, a(1), b(5))),
		"min((a), (b))":                 pair(api.OpMin, 0, a(5), b(10)),
		"(min(a, b))":                   pair(api.OpMin, 1, a(5), b(8)),
		"min((a + b), a)":               pair(api.OpMin, 0, pair(api.OpAdd, 5, a(5), b(9)), a(13)),
		"if (a) then (b) else (a)":      choice(0, a(4), b(13), a(22)),
		"(if (a) then b else (a)) or b": pair(api.OpOr, 0, choice(1, a(5), b(13), a(21)), b(28)),
		"(if a then b else a)":          choice(1, a(4), b(11), a(18)),
		"(a and b) and (b and a)":       pair(api.OpAnd, 0, pair(api.OpAnd, 1, a(1), b(7)), pair(api.OpAnd, 15, b(15), a(21))),
		"((a or b) and (b or a)) or a":  pair(api.OpOr, 0, pair(api.OpAnd, 1, pair(api.OpOr, 2, a(2), b(7)), pair(api.OpOr, 15, b(15), a(20))), a(27)),
		"(# x (\n a # )\n)":             a(8),
		"a + ((((((((((b))))))))))":     pair(api.OpAdd, 0, a(0), b(14)),
		strings.Repeat("(", 999) + "a" + strings.Repeat(")", 999): a(999),
	})
}
