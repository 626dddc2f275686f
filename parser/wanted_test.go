package parser_test

import (
	"math/big"
	"slices"
	"strings"

	"cohousing/api"
	"cohousing/lexer"
)

// wantedParse is what Parse should return, by the grammar of the chapter.
func wantedParse(source string) (api.Codex, []api.Diag) {
	tokens, e, at := lexer.Lex(source)
	if e != api.OK {
		return api.Codex{}, []api.Diag{{At: at, E: e}}
	}
	var c api.Codex
	var all []api.Diag
	for len(tokens) > 0 && len(all) < 20 {
		n, d := wantedEnd(tokens, len(source))
		if d.E == api.OK {
			d = wantedDeclaration(&c, tokens[:n])
			tokens = tokens[n:]
		} else {
			tokens = behindNext(tokens[n:])
		}
		if d.E != api.OK {
			all = append(all, d)
		}
	}
	if len(all) > 0 {
		return api.Codex{}, all
	}
	return c, nil
}

// behindNext are the tokens behind the next `;`.
func behindNext(tokens []api.Token) []api.Token {
	if i := slices.IndexFunc(tokens, isText(";")); i >= 0 {
		return tokens[i+1:]
	}
	return nil
}

// wantedExpr is what Expr should return.
func wantedExpr(source string) (api.Node, api.Errno, int) {
	tokens, e, at := lexer.Lex(source)
	if e != api.OK {
		return api.Node{}, e, at
	}
	w := start("expr")
	for i := range len(tokens) + 1 {
		if d := wantedStep(w, tokens, i, len(source)); d.E != api.OK {
			return api.Node{}, d.E, d.At
		}
	}
	n := tree(tokens)
	if isLarge(n) {
		return api.Node{}, api.ErrLimit, n.At
	}
	return n, api.OK, 0
}

// wantedStep goes on with the token with an index, or with none behind the last one, and returns the error that is found there.
func wantedStep(w *walk, tokens []api.Token, i, end int) api.Diag {
	next := api.Token{At: end}
	if i < len(tokens) {
		next = tokens[i]
	}
	text, is := w.step(next)
	if !is {
		return api.Diag{At: next.At, E: api.ErrSyntax}
	}
	if text == "WHOLE" && next.N.D != 1 {
		return api.Diag{At: next.At, E: api.ErrRange}
	}
	if text == "money" && i > 0 && tokens[i-1].Kind == api.TokNumber && !isCents(tokens[i-1].N) {
		return api.Diag{At: tokens[i-1].At, E: api.ErrRange}
	}
	return api.Diag{}
}

// isCents reports whether 100 times a number is a number.
func isCents(n api.Rat) bool {
	cents := new(big.Rat).Mul(big.NewRat(int64(n.N), int64(n.D)), big.NewRat(100, 1))
	return cents.Num().Cmp(big.NewInt(1000000000)) <= 0 && cents.Denom().Cmp(big.NewInt(1000000000)) <= 0
}

// wantedEnd is the number of tokens of the first declaration; or the error of it that is found at a token, and the number of tokens before that.
func wantedEnd(tokens []api.Token, end int) (int, api.Diag) {
	w := &walk{&rest{first: item{sort: sortOne, parts: []item{{sort: sortLine, text: "fact"}, {sort: sortLine, text: "rule"}}}}}
	begin := 0
	for i := 0; ; i++ {
		// An expression is whole where its declaration can end; with the next token, it goes on, or ends.
		isWhole := begin > 0 && w.can(";")
		d := wantedStep(w, tokens, i, end)
		isOver := d.E == api.ErrSyntax || d.E == api.OK && slices.Contains([]string{"give", ";"}, tokens[i].Text)
		if isWhole && isOver {
			if n := tree(tokens[begin:i]); isLarge(n) {
				return i, api.Diag{At: n.At, E: api.ErrLimit}
			}
		}
		if d.E != api.OK {
			return i, d
		}
		switch tokens[i].Text {
		case "when", "give":
			begin = i + 1
		case ";":
			return i + 1, api.Diag{}
		}
	}
}

// wantedDeclaration adds a declaration without an error at a token to by-laws, as far as there are not too many.
func wantedDeclaration(c *api.Codex, tokens []api.Token) api.Diag {
	at := tokens[0].At
	if tokens[0].Text == "fact" {
		if len(c.Decls) == 12 {
			return api.Diag{At: at, E: api.ErrLimit}
		}
		c.Decls = append(c.Decls, api.Decl{Name: tokens[1].Text, Unit: units()[tokens[3].Text], Lo: tokens[4].N.N, Hi: tokens[6].N.N, At: at})
		return api.Diag{}
	}
	if len(c.Rules) == 100 {
		return api.Diag{At: at, E: api.ErrLimit}
	}
	u := api.Rule{Name: tokens[1].Text, Version: tokens[2].N.N, Kind: 1 + slices.Index(kinds(), tokens[0].Text), Days: api.Span{Until: 36525}, At: at}
	u.When, u.Give = api.Node{Op: api.OpTrue, At: at}, number(at, 0, 1)
	semicolon := len(tokens) - 1
	if give := slices.IndexFunc(tokens, isText("give")); give > 0 {
		u.Give = tree(tokens[give+1 : semicolon])
		semicolon = give
	}
	if when := slices.IndexFunc(tokens, isText("when")); when > 0 {
		u.When = tree(tokens[when+1 : semicolon])
	}
	behind := func(word string, otherwise int) api.Token {
		if i := slices.IndexFunc(tokens, isText(word)); i > 0 {
			return tokens[i+1]
		}
		return api.Token{N: api.Rat{N: otherwise}}
	}
	u.Act = behind("about", 0).Text
	u.Days.From, u.Days.Until, u.Known = behind("from", 0).N.N, behind("until", 36525).N.N, behind("known", 0).N.N
	c.Rules = append(c.Rules, u)
	return api.Diag{}
}

func isText(text string) func(t api.Token) bool {
	return func(t api.Token) bool { return t.Text == text }
}

// kinds are those of rules, in the order of their numbers.
func kinds() []string {
	return []string{"charge", "right", "duty", "ban", "rooms", "vote", "notice"}
}

// units are all units by their names.
func units() map[string]api.Unit {
	return map[string]api.Unit{"flag": {Flag: true}, "number": {}, "money": {Money: 1}, "area": {Area: 1}, "days": {Days: 1}}
}

// isLarge reports whether an expression is too large.
func isLarge(n api.Node) bool {
	count, deepest := 0, 0
	type place struct {
		n     api.Node
		depth int
	}
	for all := []place{{n, 1}}; len(all) > 0; {
		last := all[len(all)-1]
		all = all[:len(all)-1]
		count, deepest = count+1, max(deepest, last.depth)
		for _, kid := range last.n.Kids {
			all = append(all, place{kid, last.depth + 1})
		}
	}
	return count > 200 || deepest > 20
}

// tree is the node of tokens that are an expression: it is split at the operator that binds most loosely, the last one of a row.
func tree(tokens []api.Token) api.Node {
	first := tokens[0]
	if first.Text == "(" && closing(tokens, 0) == len(tokens)-1 {
		return tree(tokens[1 : len(tokens)-1])
	}
	if first.Text == "if" {
		then, other := parts(tokens)
		return api.Node{Op: api.OpIf, At: first.At, Kids: []api.Node{tree(tokens[1:then]), tree(tokens[then+1 : other]), tree(tokens[other+1:])}}
	}
	for i, level := range []string{" or ", " and ", " not ", " = != < <= > >= ", " + - ", " * / "} {
		if i == 2 && first.Text == "not" {
			return api.Node{Op: api.OpNot, At: first.At, Kids: []api.Node{tree(tokens[1:])}}
		}
		if at := lastOf(tokens, level); i != 2 && at > 0 {
			return joined(first.At, tokens[at].Text, tree(tokens[:at]), tree(tokens[at+1:]))
		}
	}
	if first.Text == "min" || first.Text == "max" {
		inner := tokens[2 : len(tokens)-1]
		comma := lastOf(inner, " , ")
		return joined(first.At, first.Text, tree(inner[:comma]), tree(inner[comma+1:]))
	}
	return leaf(tokens)
}

// leaf is the node of a number with its unit, a name, or `true`.
func leaf(tokens []api.Token) api.Node {
	first := tokens[0]
	if first.Kind == api.TokNumber {
		n := number(first.At, first.N.N, first.N.D)
		if len(tokens) > 1 {
			n.Unit = units()[tokens[1].Text]
		}
		if n.Unit.Money == 1 {
			n.N = api.Rat{N: first.N.N * (100 / first.N.D), D: 1}
		}
		return n
	}
	if first.Text == "true" {
		return api.Node{Op: api.OpTrue, At: first.At}
	}
	return name(first.At, first.Text)
}

// joined is the node of an operator with two operands.
func joined(at int, text string, a, b api.Node) api.Node {
	ops := map[string]int{"+": api.OpAdd, "-": api.OpSub, "*": api.OpMul, "/": api.OpDiv, "min": api.OpMin, "max": api.OpMax, "=": api.OpEq, "!=": api.OpNe, "<": api.OpLt, "<=": api.OpLe, "and": api.OpAnd, "or": api.OpOr}
	switch text {
	case ">":
		return pair(api.OpLt, at, b, a)
	case ">=":
		return pair(api.OpLe, at, b, a)
	}
	return pair(ops[text], at, a, b)
}

// closing is the index of the bracket that closes the one with an index.
func closing(tokens []api.Token, open int) int {
	depth := 0
	for i, t := range tokens[open:] {
		switch t.Text {
		case "(":
			depth++
		case ")":
			depth--
		}
		if depth == 0 {
			return open + i
		}
	}
	return -1
}

// lastOf is the index of the last token with one of some texts that is in no bracket, or -1.
func lastOf(tokens []api.Token, texts string) int {
	last := -1
	for i := 0; i < len(tokens); i++ {
		if tokens[i].Text == "(" {
			i = closing(tokens, i)
		} else if tokens[i].Text != "" && strings.Contains(texts, " "+tokens[i].Text+" ") {
			last = i
		}
	}
	return last
}

// parts are the indexes of the `then` and the `else` that belong to the `if` at the beginning.
func parts(tokens []api.Token) (then, other int) {
	var open []int
	for i, t := range tokens {
		switch t.Text {
		case "if":
			open = append(open, i)
		case "then":
			if len(open) == 1 {
				then = i
			}
		case "else":
			if len(open) == 1 {
				return then, i
			}
			open = open[:len(open)-1]
		}
	}
	return 0, 0
}
