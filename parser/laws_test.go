package parser_test

import (
	"math/rand/v2"
	"slices"
	"strconv"
	"strings"
	"testing"
	"unsafe"

	"cohousing/api"
	"cohousing/lexer"
	"cohousing/parser"
)

// movedNode is an expression with other offsets.
func movedNode(n api.Node, to func(at int) int) api.Node {
	n.At = to(n.At)
	n.Kids = slices.Clone(n.Kids)
	for i, kid := range n.Kids {
		n.Kids[i] = movedNode(kid, to)
	}
	return n
}

// moved are by-laws with other offsets.
func moved(c api.Codex, to func(at int) int) api.Codex {
	c.Decls, c.Rules = slices.Clone(c.Decls), slices.Clone(c.Rules)
	for i := range c.Decls {
		c.Decls[i].At = to(c.Decls[i].At)
	}
	for i, u := range c.Rules {
		c.Rules[i].At, c.Rules[i].When, c.Rules[i].Give = to(u.At), movedNode(u.When, to), movedNode(u.Give, to)
	}
	return c
}

func nowhere(int) int { return 0 }

// by moves offsets by a number.
func by(n int) func(at int) int { return func(at int) int { return at + n } }

// unplaced is an expression without offsets.
func unplaced(n api.Node) api.Node { return movedNode(n, nowhere) }

// mustExpr is an expression without an error.
func mustExpr(t *testing.T, source string) api.Node {
	t.Helper()
	n, e, at := parser.Expr(source)
	if e != api.OK || at != 0 {
		t.Fatalf("%q: %v at %d", source, e, at)
	}
	return n
}

// mustParse are by-laws without an error.
func mustParse(t *testing.T, source string) api.Codex {
	t.Helper()
	c, all := parser.Parse(source)
	if len(all) > 0 {
		t.Fatalf("%q: %v", source, all)
	}
	return c
}

// anyTree is a tree of nodes of up to a depth, without offsets.
func anyTree(r *rand.Rand, depth int) api.Node {
	kids := func(op, count int) api.Node {
		n := api.Node{Op: op}
		for range count {
			n.Kids = append(n.Kids, anyTree(r, depth-1))
		}
		return n
	}
	op := 1 + r.IntN(17)
	if depth == 1 {
		op = pick(r, []int{api.OpNumber, api.OpFact, api.OpTrue})
	}
	switch op {
	case api.OpNumber:
		unit := pick(r, []string{"flag", "number", "money", "area", "days"})
		if unit == "money" {
			return of(unit, number(0, pick(r, []int{0, 1, 5, 50, 100, 1250, 999999999, 1000000000}), 1))
		}
		value := pick(r, [][2]int{{0, 1}, {1, 1}, {7, 1}, {999999999, 1}, {1, 2}, {5, 4}, {1, 100}, {617, 50}, {999999999, 100}, {999999999, 2}})
		return of(unit, number(0, value[0], value[1]))
	case api.OpFact:
		return name(0, pick(r, names()))
	case api.OpTrue:
		return yes(0)
	case api.OpNot:
		return kids(op, 1)
	case api.OpIf:
		return kids(op, 3)
	}
	return kids(op, 2)
}

// decimal is the text of a number of hundredths.
func decimal(hundredths int) string {
	text := strconv.Itoa(hundredths / 100)
	if rest := hundredths % 100; rest != 0 {
		text += "." + strconv.Itoa(100 + rest)[1:]
	}
	return text
}

// amount is the text of a number with its unit; pure numbers have one or none.
func amount(r *rand.Rand, n api.Node) string {
	if n.Unit.Money == 1 {
		return decimal(n.N.N) + " money"
	}
	text := decimal(n.N.N * (100 / n.N.D))
	for unit, u := range units() {
		if u == n.Unit && (unit != "number" || r.IntN(2) == 0) {
			text += " " + unit
		}
	}
	return text
}

// signsOf are the ways to write an operator between two operands.
func signsOf(op int) []sign {
	return slices.DeleteFunc(signs(), func(s sign) bool { return s.op != op })
}

// levelOf is how tightly a node binds when it is written.
func levelOf(n api.Node) int {
	switch n.Op {
	case api.OpIf:
		return 0
	case api.OpNot:
		return notLevel
	}
	if all := signsOf(n.Op); len(all) > 0 {
		return all[0].level
	}
	return 7
}

// written is the text of an expression, with brackets around all operands, or only around those that bind less tightly than their place asks for.
func written(r *rand.Rand, n api.Node, isFull bool) string {
	operand := func(i, level int) string {
		text := written(r, n.Kids[i], isFull)
		if isFull || levelOf(n.Kids[i]) < level {
			return "(" + text + ")"
		}
		return text
	}
	switch n.Op {
	case api.OpNumber:
		return amount(r, n)
	case api.OpFact:
		return n.Name
	case api.OpTrue:
		return "true"
	case api.OpNot:
		return "not " + operand(0, notLevel)
	case api.OpIf:
		return "if " + operand(0, 0) + " then " + operand(1, 0) + " else " + operand(2, 0)
	case api.OpMin:
		return "min(" + operand(0, 0) + "," + operand(1, 0) + ")"
	case api.OpMax:
		return "max(" + operand(0, 0) + "," + operand(1, 0) + ")"
	}
	s := pick(r, signsOf(n.Op))
	left, right := s.level, s.level+1
	if s.level == 4 {
		left = 5
	}
	if s.isExchanged {
		return operand(1, left) + " " + s.text + " " + operand(0, right)
	}
	return operand(0, left) + " " + s.text + " " + operand(1, right)
}

// trees calls a function with trees that are not too large, small ones and large ones.
func trees(do func(r *rand.Rand, n api.Node)) {
	r := dice()
	for i := range 10000 {
		if n := anyTree(r, 1+i%9); !isLarge(n) {
			do(r, n)
		}
	}
	for range 2000 {
		n := yes(0)
		for depth := 1 + r.IntN(20); depth > 1; depth-- {
			n = pick(r, []api.Node{not(0, n), pair(pick(r, signs()).op, 0, n, name(0, "a")), pair(pick(r, signs()).op, 0, anyTree(r, 1), n), choice(0, yes(0), n, name(0, "b")), choice(0, n, yes(0), yes(0)), choice(0, name(0, "c"), yes(0), n), pair(api.OpMin, 0, n, n)})
			if isLarge(n) {
				n = yes(0)
			}
		}
		do(r, n)
	}
}

// P9.2: a tree that is written with brackets around each operand is read as this tree.
func TestReading(t *testing.T) {
	count := 0
	trees(func(r *rand.Rand, n api.Node) {
		if source := written(r, n, true); len(source) <= 8000 {
			if got := mustExpr(t, source); !isSame(unplaced(got), n) {
				t.Fatalf("%q: got %v, want %v", source, unplaced(got), n)
			}
			count++
		}
	})
	if count < 8000 {
		t.Errorf("only %d trees", count)
	}
}

// P9.7: without the brackets that the order of the operators makes superfluous, it is the same tree.
func TestOrder(t *testing.T) {
	trees(func(r *rand.Rand, n api.Node) {
		if source := written(r, n, false); len(source) <= 8000 {
			if got := mustExpr(t, source); !isSame(unplaced(got), n) {
				t.Fatalf("%q: got %v, want %v", source, unplaced(got), n)
			}
		}
	})
}

// P9.7: a comparison with > or >= is that with exchanged operands, but for the offsets.
func TestExchanged(t *testing.T) {
	trees(func(r *rand.Rand, n api.Node) {
		if len(n.Kids) != 2 || len(written(r, n, true)) > 7000 {
			return
		}
		a, b := "("+written(r, n.Kids[0], false)+")", "("+written(r, n.Kids[1], false)+")"
		for greater, less := range map[string]string{">": "<", ">=": "<="} {
			one, two := mustExpr(t, a+greater+b), mustExpr(t, b+less+a)
			if !isSame(unplaced(one), unplaced(two)) || one.At != 0 || two.At != 0 {
				t.Fatalf("%q and %q: %v and %v", a+greater+b, b+less+a, one, two)
			}
			if one.Kids[1].At > one.Kids[0].At || two.Kids[0].At > two.Kids[1].At {
				t.Fatalf("%q and %q: %v and %v", a+greater+b, b+less+a, one, two)
			}
		}
	})
}

// P9.3: other gaps between the tokens move the offsets, those of errors also, and change nothing else.
func TestGaps(t *testing.T) {
	r := dice()
	for i := range 6000 {
		texts := declarations(r, 1+r.IntN(4), 1+i%40)
		if i%2 == 0 {
			texts = changed(r, texts, 1+r.IntN(3))
		}
		source, from := placed(r, texts)
		other, to := placed(r, texts)
		if len(source) > 8000 || len(other) > 8000 {
			continue
		}
		there := func(at int) int {
			return to[slices.Index(from, at)]
		}
		c, all := parser.Parse(source)
		for j := range all {
			all[j].At = there(all[j].At)
		}
		if d, others := parser.Parse(other); !isSameCodex(moved(c, there), d) || !slices.Equal(all, others) {
			t.Fatalf("%q: %v, %v; %q: %v, %v", source, c, all, other, d, others)
		}
		n, e, at := parser.Expr(source)
		m, f, where := parser.Expr(other)
		if e != f || e != api.OK && there(at) != where || e == api.OK && !isSame(movedNode(n, there), m) {
			t.Fatalf("%q: %v, %v at %d; %q: %v, %v at %d", source, n, e, at, other, m, f, where)
		}
	}
}

// P9.3: the same for expressions.
func TestGapsInExpressions(t *testing.T) {
	r := dice()
	for i := range 6000 {
		texts := sentence(r, "expr", r.IntN(1+i%50))
		source, from := placed(r, texts)
		other, to := placed(r, texts)
		there := func(at int) int { return to[slices.Index(from, at)] }
		n, e, at := parser.Expr(source)
		m, f, where := parser.Expr(other)
		if len(source) > 8000 || len(other) > 8000 {
			continue
		}
		if e != f || e != api.OK && there(at) != where || e == api.OK && !isSame(movedNode(n, there), m) {
			t.Fatalf("%q: %v, %v at %d; %q: %v, %v at %d", source, n, e, at, other, m, f, where)
		}
	}
}

// P9.4: two sources with a line end between have the facts and rules of both.
func TestConcatenation(t *testing.T) {
	r := dice()
	var last string
	var first api.Codex
	count := 0
	for i := range 3000 {
		source, _ := placed(r, declarations(r, r.IntN(6), 1+i%20))
		second, all := parser.Parse(source)
		if len(all) > 0 {
			continue
		}
		both := moved(second, by(len(last)+1))
		both.Decls, both.Rules = append(slices.Clone(first.Decls), both.Decls...), append(slices.Clone(first.Rules), both.Rules...)
		if len(both.Decls) <= 12 && len(last+source) < 8000 {
			if got := mustParse(t, last+"\n"+source); !isSameCodex(got, both) {
				t.Fatalf("%q and %q: got %v, want %v", last, source, got, both)
			}
			count++
		}
		last, first = source, second
	}
	if count < 500 {
		t.Errorf("only %d pairs of sources", count)
	}
}

// P9.4: where both together have too many facts or rules, those that are too many are the errors.
func TestConcatenationOfMany(t *testing.T) {
	for _, x := range []struct {
		text string
		most int
	}{{"fact a: flag 0 to 1;", 12}, {"ban a 1 from 0 known 0;", 100}} {
		for one := max(0, x.most-11); one <= x.most; one++ {
			for two := range 12 {
				first, second := strings.Repeat(x.text, one), strings.Repeat(x.text, two)
				c, all := parser.Parse(first + "\n" + second)
				var want []api.Diag
				for n := x.most - one; n < two; n++ {
					want = append(want, diag(api.ErrLimit, len(first)+1+n*len(x.text)))
				}
				if !slices.Equal(all, want) || len(want) == 0 && len(c.Decls)+len(c.Rules) != one+two {
					t.Errorf("%d and %d of %q: %v", one, two, x.text, all)
				}
			}
		}
	}
}

// P9.5: a declaration with an error between others leads to exactly one error, which is within it.
func TestRecovery(t *testing.T) {
	r := dice()
	count := 0
	for i := range 6000 {
		before, _ := placed(r, declarations(r, r.IntN(4), 10))
		behind, _ := placed(r, declarations(r, r.IntN(4), 10))
		texts := changed(r, declarations(r, 1, 1+i%60), 1+r.IntN(3))
		texts = append(slices.DeleteFunc(texts, func(text string) bool { return text == ";" }), ";")
		wrong, _ := placed(r, texts)
		_, all := parser.Parse(wrong)
		c, others := parser.Parse(before + "\n" + behind)
		if len(all) == 0 || len(others) > 0 || len(c.Decls) > 12 || len(before+wrong+behind) > 7998 {
			continue
		}
		source := before + "\n" + wrong + "\n" + behind
		_, got := parser.Parse(source)
		all[0].At += len(before) + 1
		if len(all) != 1 || !slices.Equal(got, all) || got[0].At < len(before)+1 || got[0].At > len(before)+1+strings.LastIndex(wrong, ";") {
			t.Fatalf("%q, %q, %q: got %v, want %v", before, wrong, behind, got, all)
		}
		count++
	}
	if count < 2000 {
		t.Errorf("only %d declarations with an error", count)
	}
}

// P9.6: an expression in brackets is the same one.
func TestInBrackets(t *testing.T) {
	r := dice()
	count := map[api.Errno]int{}
	for i := range 4000 {
		source, _ := placed(r, sentence(r, "expr", r.IntN(1+i%60)))
		n, e, at := parser.Expr(source)
		if len(source) > 7000 || e != api.OK && e != api.ErrLimit {
			continue
		}
		for brackets := 1; brackets <= 3; brackets++ {
			m, f, where := parser.Expr(strings.Repeat("(", brackets) + source + "\n" + strings.Repeat(")", brackets))
			if f != e || e != api.OK && where != at+brackets || e == api.OK && !isSame(m, movedNode(n, by(brackets))) {
				t.Fatalf("%q in %d brackets: %v, %v at %d; without: %v, %v at %d", source, brackets, m, f, where, n, e, at)
			}
			count[e]++
		}
	}
	if count[api.OK] < 1000 || count[api.ErrLimit] < 10 {
		t.Errorf("only few expressions: %v", count)
	}
}

// P9.6: brackets around the left operands of a row of equal operators change nothing but the offsets.
func TestBracketsInRows(t *testing.T) {
	r := dice()
	for _, s := range signs() {
		if s.level == 4 {
			continue
		}
		for range 300 {
			row, plain := "", ""
			for i := range 2 + r.IntN(7) {
				n := anyTree(r, 1+r.IntN(3))
				operand := written(r, n, false)
				if r.IntN(2) == 0 || levelOf(n) <= s.level {
					operand = "(" + operand + ")"
				}
				if i == 0 {
					row, plain = operand, operand
				} else {
					row, plain = "("+row+") "+s.text+" "+operand, plain+" "+s.text+" "+operand
				}
			}
			if one, two := mustExpr(t, row), mustExpr(t, plain); !isSame(unplaced(one), unplaced(two)) || one.At != 0 || two.At != 0 {
				t.Fatalf("%q and %q: %v and %v", row, plain, one, two)
			}
		}
	}
}

// P9.8 and P1: errors are in the order of their offsets, within the source, and at most 20; with them there are no by-laws, and without them each `;` ends a declaration.
func TestErrors(t *testing.T) {
	isFull, isLast := false, false
	sources(func(source string) {
		c, all := parser.Parse(source)
		end := -1
		for _, d := range all {
			if d.At <= end || d.At > len(source) || d.E == api.OK {
				t.Fatalf("%q: %v", source, all)
			}
			end = d.At
		}
		if len(all) > 20 || len(all) > 0 && !isSameCodex(c, api.Codex{}) {
			t.Fatalf("%q: %v, %v", source, c, all)
		}
		tokens, _, _ := lexer.Lex(source)
		if n := countOf(tokens, ";"); len(all) == 0 && len(c.Decls)+len(c.Rules) != n {
			t.Fatalf("%q: %d declarations, and %d are there", source, n, len(c.Decls)+len(c.Rules))
		}
		isFull, isLast = isFull || len(all) == 20, isLast || end == len(source)
		n, e, at := parser.Expr(source)
		if e == api.OK && at != 0 || e != api.OK && !isSame(n, api.Node{}) || at < 0 || at > len(source) {
			t.Fatalf("%q: %v, %v at %d", source, n, e, at)
		}
	})
	if !isFull || !isLast {
		t.Error("no source has 20 errors, or none has one at its end")
	}
}

// countOf is how many tokens have a text.
func countOf(tokens []api.Token, text string) int {
	count := 0
	for _, token := range tokens {
		if token.Text == text {
			count++
		}
	}
	return count
}

// P1: any bytes, and very long sources.
func TestAnyBytes(t *testing.T) {
	r := dice()
	for range 20000 {
		b := make([]byte, r.IntN(40))
		for i := range b {
			b[i] = byte(r.Uint32())
		}
		isWanted(t, string(b))
	}
	for c := range 256 {
		for _, before := range []string{"", "fact a", "ban a 1 from 0 known 0 give (", "1 ", "; "} {
			for _, behind := range []string{"", " ", ";", "\n1.5 money;"} {
				isWanted(t, before+string([]byte{byte(c)})+behind)
			}
		}
	}
	refuse(t, map[string][]api.Diag{strings.Repeat("ban a 1 from 0 known 0;\n", 1<<20): {diag(api.ErrLimit, 0)}})
}

// P1 and the rules: a call has the same result each time, whatever was done with an earlier one.
func TestNoState(t *testing.T) {
	source := "fact a: flag 0 to 1; ban b 1 from 0 known 0 when a > (b - c) and true give min(1, not d);"
	expr := "if a then (b + c) else not d"
	c, n := mustParse(t, source), mustExpr(t, expr)
	want, same := moved(c, by(0)), movedNode(n, by(0))
	c.Decls[0].Name, c.Rules[0].Name = "x", "y"
	spoil(c.Rules[0].When)
	spoil(n)
	if isSame(n, same) || !isSame(c.Rules[0].Give, want.Rules[0].Give) {
		t.Errorf("operands share their memory: %v, %v", n, c)
	}
	if again := mustParse(t, source); !isSameCodex(again, want) {
		t.Errorf("got %v, want %v", again, want)
	}
	if again := mustExpr(t, expr); !isSame(again, same) {
		t.Errorf("got %v, want %v", again, same)
	}
}

// spoil changes all operands of a node, also such that would be behind the last one.
func spoil(n api.Node) {
	for i := range n.Kids {
		spoil(n.Kids[i])
		n.Kids[i].Name = "spoilt"
	}
	_ = append(n.Kids, yes(-1))
}

// P1 and the rules: by-laws do not share the memory of their source.
func TestMemory(t *testing.T) {
	text := "fact aa: flag 0 to 1; ban bb 1 about cc from 0 known 0 when dd;"
	b := []byte(text)
	c := mustParse(t, unsafe.String(&b[0], len(b)))
	for i := range b {
		b[i] = 'x'
	}
	if want := mustParse(t, text); !isSameCodex(c, want) || c.Rules[0].When.Name != "dd" {
		t.Errorf("got %v, want %v", c, want)
	}
}

// P1: two calls at a time have the results of two calls one behind the other.
func TestAtOneTime(t *testing.T) {
	done := make(chan bool)
	for i := range 8 {
		go func() {
			r := rand.New(rand.NewPCG(uint64(i), 1))
			is := true
			for range 200 {
				source, _ := placed(r, changed(r, declarations(r, 3, 20), 1))
				c, all := parser.Parse(source)
				want, errors := wantedParse(source)
				is = is && isSameCodex(c, want) && slices.Equal(all, errors)
			}
			done <- is
		}()
	}
	for range 8 {
		if !<-done {
			t.Error("another result")
		}
	}
}
