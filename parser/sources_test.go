package parser_test

import (
	"math/rand/v2"
	"slices"
	"strings"
	"testing"

	"cohousing/api"
	"cohousing/parser"
)

// gap is a gap between two tokens.
func gap(r *rand.Rand) string {
	return pick(r, []string{" ", " ", "\n", "\t", "\r\n", "   ", "#\n", "# x\n", " # fact a: ; {\n\t", "#\xff!\r\n "})
}

// placed is a source of tokens with random gaps between them, and the offsets of the tokens; the last one is the length of the source.
func placed(r *rand.Rand, texts []string) (string, []int) {
	var source strings.Builder
	var at []int
	for _, text := range texts {
		if source.Len() == 0 && r.IntN(2) == 0 || !strings.Contains("();,:", text) {
			source.WriteString(gap(r))
		}
		at = append(at, source.Len())
		source.WriteString(text)
	}
	if r.IntN(2) == 0 {
		source.WriteString(gap(r))
	}
	return source.String(), append(at, source.Len())
}

// changed is a row of tokens in which some are left out, doubled, put in, replaced or exchanged.
func changed(r *rand.Rand, texts []string, count int) []string {
	texts = slices.Clone(texts)
	for range count {
		i, j := r.IntN(len(texts)+1), r.IntN(len(texts)+1)
		switch {
		case i == len(texts) || j == len(texts) || r.IntN(5) == 0:
			texts = slices.Insert(texts, i, pick(r, everyToken()))
		case r.IntN(3) == 0:
			texts = slices.Delete(texts, i, i+1)
		case r.IntN(3) == 0:
			texts = slices.Insert(texts, i, texts[j])
		case r.IntN(2) == 0:
			texts[i] = pick(r, everyToken())
		default:
			texts[i], texts[j] = texts[j], texts[i]
		}
	}
	return texts
}

// declarations are the tokens of some facts and rules, with expressions of up to about as many tokens.
func declarations(r *rand.Rand, count, more int) []string {
	var texts []string
	for range count {
		texts = append(texts, sentence(r, pick(r, []string{"fact", "rule", "rule"}), r.IntN(more))...)
	}
	return texts
}

// anyBytes are bytes, many of which are parts of tokens.
func anyBytes(r *rand.Rand) string {
	var source strings.Builder
	for range r.IntN(30) {
		switch r.IntN(8) {
		case 0:
			source.WriteByte(byte(r.IntN(256)))
		case 1:
			source.WriteString(pick(r, []string{"!", "_", ".", "é", "1.", "A", "\x00", "abcdefghijklmnopq"}))
		default:
			source.WriteString(pick(r, everyToken()) + pick(r, []string{" ", "", "\n"}))
		}
	}
	return source.String()
}

// sources calls a function with sources of all sorts.
func sources(do func(source string)) {
	r := dice()
	place := func(texts []string) {
		source, _ := placed(r, texts)
		do(source)
	}
	for i := range 4000 {
		right := declarations(r, r.IntN(5), 1+i%60)
		place(right)
		place(changed(r, right, 1+r.IntN(3)))
		place(changed(r, right, 1+r.IntN(20)))
		expr := sentence(r, "expr", r.IntN(1+i%60))
		place(expr)
		place(changed(r, expr, 1+r.IntN(3)))
		do(anyBytes(r))
	}
	for range 150 {
		place(declarations(r, 5+r.IntN(100), 10))
		place(changed(r, declarations(r, 30+r.IntN(40), 10), r.IntN(30)))
		place(sentence(r, "expr", r.IntN(1500)))
		place(changed(r, []string{"a"}, 100))
		rule := slices.Concat(strings.Fields("ban a 1 from 0 known 0 when"), sentence(r, "expr", r.IntN(500)), []string{";"})
		place(slices.Concat(rule, wholeRule(), wholeFact()))
		place(slices.Concat(changed(r, rule, 1), wholeRule(), wholeFact()))
	}
}

// P9.1: sources of all sorts, by the grammar of the chapter.
func TestSources(t *testing.T) {
	count := map[api.Errno]int{}
	sources(func(source string) {
		isWanted(t, source)
		n, e, at := parser.Expr(source)
		if want, wrong, where := wantedExpr(source); !isSame(n, want) || e != wrong || at != where {
			t.Fatalf("%q: got %v, %v at %d; want %v, %v at %d", source, n, e, at, want, wrong, where)
		}
		count[e]++
		_, all := parser.Parse(source)
		for _, d := range all {
			count[d.E]++
		}
		if len(all) == 0 {
			count[api.OK]++
		}
	})
	for _, e := range []api.Errno{api.OK, api.ErrLimit, api.ErrRange, api.ErrForm, api.ErrSyntax} {
		if count[e] < 100 {
			t.Errorf("only %d sources with error %d", count[e], e)
		}
	}
}

// P9.1: all rows of up to four tokens of an alphabet that has one of each sort that matters in an expression.
func TestShortExpressions(t *testing.T) {
	alphabet := strings.Fields("a 1 10000001 money true not if then else ( ) , min < + * and ; from")
	layer := []string{""}
	for range 4 {
		var next []string
		for _, source := range layer {
			for _, text := range alphabet {
				next = append(next, source+" "+text)
			}
		}
		layer = next
		for _, source := range layer {
			n, e, at := parser.Expr(source)
			if want, wrong, where := wantedExpr(source); !isSame(n, want) || e != wrong || at != where {
				t.Fatalf("%q: got %v, %v at %d; want %v, %v at %d", source, n, e, at, want, wrong, where)
			}
		}
	}
}

// FuzzParse goes on with TestSources for as long as one likes: go test -fuzz FuzzParse ./parser
func FuzzParse(f *testing.F) {
	for _, source := range []string{"", "fact rooms: number 1 to 5; charge rent 1 from 0 known 0 give rooms * 12.50 money;", "a > b + 1", "duty x", "if a then 0.5 else (b)", "; ; !"} {
		f.Add(source)
	}
	f.Fuzz(func(t *testing.T, source string) {
		isWanted(t, source)
		n, e, at := parser.Expr(source)
		if want, wrong, where := wantedExpr(source); !isSame(n, want) || e != wrong || at != where {
			t.Errorf("%q: got %v, %v at %d; want %v, %v at %d", source, n, e, at, want, wrong, where)
		}
	})
}
