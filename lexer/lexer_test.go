package lexer_test

import (
	"slices"
	"strings"
	"testing"

	"cohousing/api"
	"cohousing/lexer"
)

// outcome is what Lex returns.
type outcome struct {
	tokens []api.Token
	e      api.Errno
	at     int
}

func lex(source string) outcome {
	tokens, e, at := lexer.Lex(source)
	return outcome{tokens, e, at}
}

// isSame takes no tokens and an empty list of them as the same.
func (o outcome) isSame(p outcome) bool {
	return slices.Equal(o.tokens, p.tokens) && o.e == p.e && o.at == p.at
}

// right is the outcome of a source without an error.
func right(tokens ...api.Token) outcome { return outcome{tokens: tokens} }

// wrong is the outcome of a source with an error.
func wrong(e api.Errno, at int) outcome { return outcome{e: e, at: at} }

func word(at int, text string) api.Token { return api.Token{Kind: api.TokWord, At: at, Text: text} }

func sign(at int, text string) api.Token { return api.Token{Kind: api.TokPunct, At: at, Text: text} }

func number(at, n, d int) api.Token {
	return api.Token{Kind: api.TokNumber, At: at, N: api.Rat{N: n, D: d}}
}

// expect holds the outcomes of sources against the ones that the chapter asks for.
func expect(t *testing.T, cases map[string]outcome) {
	t.Helper()
	for source, want := range cases {
		if got := lex(source); !got.isSame(want) {
			t.Errorf("%q: got %v, want %v", source, got, want)
		}
	}
}

// every has all signs.
func every() []string { return strings.Fields("{ } ( ) ; , : + - * / = != < <= > >=") }

// P7.1: the examples of the chapter.
func TestExamples(t *testing.T) {
	expect(t, map[string]outcome{
		"fee 1 <= 12.50 # x": right(word(0, "fee"), number(4, 1, 1), sign(6, "<="), number(9, 25, 2)),
		"a!b":                wrong(api.ErrSyntax, 1),
		"12a":                wrong(api.ErrForm, 0),
		"1.":                 wrong(api.ErrForm, 0),
		"1.234":              wrong(api.ErrForm, 0),
		"1234567890":         wrong(api.ErrForm, 0),
		"123456789.12":       wrong(api.ErrRange, 0),
	})
}

// P7.1: by-laws, with gaps of all kinds and without any.
func TestOrdinary(t *testing.T) {
	expect(t, map[string]outcome{
		"fact rooms: number 1 to 5;\r\n": right(word(0, "fact"), word(5, "rooms"), sign(10, ":"), word(12, "number"), number(19, 1, 1), word(21, "to"), number(24, 5, 1), sign(25, ";")),
		"# rent\nrooms*12.50 money;":     right(word(7, "rooms"), sign(12, "*"), number(13, 25, 2), word(19, "money"), sign(24, ";")),
		"max(a_1,2-b)!=0.5":              right(word(0, "max"), sign(3, "("), word(4, "a_1"), sign(7, ","), number(8, 2, 1), sign(9, "-"), word(10, "b"), sign(11, ")"), sign(12, "!="), number(14, 1, 2)),
		"{\ta>=1\t}":                     right(sign(0, "{"), word(2, "a"), sign(3, ">="), number(5, 1, 1), sign(7, "}")),
	})
}

// P7.1: gaps are no tokens, alone or around others; a comment ends before a line feed, which is a blank, or with the source.
func TestGaps(t *testing.T) {
	expect(t, map[string]outcome{
		"":             right(),
		" ":            right(),
		"\t":           right(),
		"\n":           right(),
		"\r":           right(),
		" \t\r\n\n ":   right(),
		"#":            right(),
		"#\n":          right(),
		"# a ! 12a":    right(),
		"# a\n":        right(),
		"##\n#":        right(),
		"#a\r!\n":      right(),
		"#\x00\xff é€": right(),
		"a b":          right(word(0, "a"), word(2, "b")),
		"a\tb":         right(word(0, "a"), word(2, "b")),
		"a\nb":         right(word(0, "a"), word(2, "b")),
		"a\rb":         right(word(0, "a"), word(2, "b")),
		"a#b":          right(word(0, "a")),
		"a#b\nc":       right(word(0, "a"), word(4, "c")),
		"a#b\n\nc":     right(word(0, "a"), word(5, "c")),
		"a#\nb":        right(word(0, "a"), word(3, "b")),
		"a#b#c\nd":     right(word(0, "a"), word(6, "d")),
		"a#b\rc":       right(word(0, "a")),
		"#é\na":        right(word(4, "a")),
		"1#2\n3":       right(number(0, 1, 1), number(4, 3, 1)),
		"<#\n=":        right(sign(0, "<"), sign(3, "=")),
		"\n a\r\n":     right(word(2, "a")),
	})
}

// P7.1: each sign alone, behind a token of each kind, and before one.
func TestSigns(t *testing.T) {
	for _, s := range every() {
		n := len(s)
		expect(t, map[string]outcome{
			s:             right(sign(0, s)),
			" " + s + " ": right(sign(1, s)),
			"a" + s + "b": right(word(0, "a"), sign(1, s), word(1+n, "b")),
			"1" + s + "2": right(number(0, 1, 1), sign(1, s), number(1+n, 2, 1)),
			")" + s + "(": right(sign(0, ")"), sign(1, s), sign(1+n, "(")),
			s + s[:1]:     twice(s),
		})
	}
}

// twice is the outcome of a sign with its first byte behind it.
func twice(s string) outcome {
	if s[0] == '!' {
		return wrong(api.ErrSyntax, len(s))
	}
	return right(sign(0, s), sign(len(s), s[:1]))
}

// P7.1: signs have as many bytes as possible, and `!` is none alone.
func TestLongestSign(t *testing.T) {
	expect(t, map[string]outcome{
		"==":   right(sign(0, "="), sign(1, "=")),
		"===":  right(sign(0, "="), sign(1, "="), sign(2, "=")),
		"<==":  right(sign(0, "<="), sign(2, "=")),
		">==":  right(sign(0, ">="), sign(2, "=")),
		"!==":  right(sign(0, "!="), sign(2, "=")),
		"=<":   right(sign(0, "="), sign(1, "<")),
		"=>":   right(sign(0, "="), sign(1, ">")),
		"<>":   right(sign(0, "<"), sign(1, ">")),
		"><=":  right(sign(0, ">"), sign(1, "<=")),
		"<<=":  right(sign(0, "<"), sign(1, "<=")),
		"< =":  right(sign(0, "<"), sign(2, "=")),
		"<!=":  right(sign(0, "<"), sign(1, "!=")),
		"=!=":  right(sign(0, "="), sign(1, "!=")),
		"!=<=": right(sign(0, "!="), sign(2, "<=")),
		"!":    wrong(api.ErrSyntax, 0),
		"! =":  wrong(api.ErrSyntax, 0),
		"!<":   wrong(api.ErrSyntax, 0),
		"!!=":  wrong(api.ErrSyntax, 0),
		"=!":   wrong(api.ErrSyntax, 1),
		"!=!":  wrong(api.ErrSyntax, 2),
		"<!":   wrong(api.ErrSyntax, 1),
		"a !":  wrong(api.ErrSyntax, 2),
		"!#\n": wrong(api.ErrSyntax, 0),
	})
}

// P7.1: words have letters, digits and `_` behind a letter.
func TestWords(t *testing.T) {
	expect(t, map[string]outcome{
		"a":                right(word(0, "a")),
		"z":                right(word(0, "z")),
		"a0":               right(word(0, "a0")),
		"a9":               right(word(0, "a9")),
		"a_":               right(word(0, "a_")),
		"a__1_z":           right(word(0, "a__1_z")),
		"if":               right(word(0, "if")),
		"abcdefghijklmnop": right(word(0, "abcdefghijklmnop")),
		"qrstuvwxyz012345": right(word(0, "qrstuvwxyz012345")),
		"a6789___________": right(word(0, "a6789___________")),
		"_":                wrong(api.ErrSyntax, 0),
		"_a":               wrong(api.ErrSyntax, 0),
		"A":                wrong(api.ErrSyntax, 0),
		"aB":               wrong(api.ErrSyntax, 1),
		"Ab":               wrong(api.ErrSyntax, 0),
		"a.b":              wrong(api.ErrSyntax, 1),
		"é":                wrong(api.ErrSyntax, 0),
		"aé":               wrong(api.ErrSyntax, 1),
		"a\xe1":            wrong(api.ErrSyntax, 1),
	})
}

// P7.1: words have at most 16 bytes.
func TestLongWords(t *testing.T) {
	for _, begin := range []string{"a", "a1", "a_", "zz9_"} {
		for _, more := range []string{"b", "7", "_"} {
			for n := 14; n <= 40; n++ {
				text := begin + strings.Repeat(more, n-len(begin))
				want := right(sign(0, ";"), word(2, text), sign(2+n, ";"))
				if n > 16 {
					want = wrong(api.ErrLimit, 2)
				}
				expect(t, map[string]outcome{"; " + text + ";": want})
			}
		}
	}
	expect(t, map[string]outcome{
		strings.Repeat("a", 8000):                 wrong(api.ErrLimit, 0),
		"aaaaaaaaaaaaaaaa bbbbbbbbbbbbbbbb":       right(word(0, "aaaaaaaaaaaaaaaa"), word(17, "bbbbbbbbbbbbbbbb")),
		"aaaaaaaaaaaaaaaa#\nb":                    right(word(0, "aaaaaaaaaaaaaaaa"), word(18, "b")),
		"aaaaaaaaaaaaaaaa bbbbbbbbbbbbbbbbb":      wrong(api.ErrLimit, 17),
		"aaaaaaaaaaaaaaaa.":                       wrong(api.ErrSyntax, 16),
		"aaaaaaaaaaaaaaaaaA":                      wrong(api.ErrLimit, 0),
		"aaaaaaaaaaaaaaaaA":                       wrong(api.ErrSyntax, 16),
		"aaaaaaaaaaaaaaaaa !":                     wrong(api.ErrLimit, 0),
		"! aaaaaaaaaaaaaaaaa":                     wrong(api.ErrSyntax, 0),
		"# aaaaaaaaaaaaaaaaaaaaaaaaaaaaa\nb":      right(word(32, "b")),
		"#\naaaaaaaaaaaaaaaaaaaaaaaaaaaaaaaaaaaa": wrong(api.ErrLimit, 2),
	})
}

// P7.1: numbers that have the form, and a value that is a number of layer 1.
func TestNumbers(t *testing.T) {
	expect(t, map[string]outcome{
		"0":            right(number(0, 0, 1)),
		"7":            right(number(0, 7, 1)),
		"9":            right(number(0, 9, 1)),
		"10":           right(number(0, 10, 1)),
		"999999999":    right(number(0, 999999999, 1)),
		"123456789":    right(number(0, 123456789, 1)),
		"000000000":    right(number(0, 0, 1)),
		"000000001":    right(number(0, 1, 1)),
		"007":          right(number(0, 7, 1)),
		"010":          right(number(0, 10, 1)),
		"0.0":          right(number(0, 0, 1)),
		"0.00":         right(number(0, 0, 1)),
		"0.01":         right(number(0, 1, 100)),
		"0.1":          right(number(0, 1, 10)),
		"0.10":         right(number(0, 1, 10)),
		"0.2":          right(number(0, 1, 5)),
		"0.25":         right(number(0, 1, 4)),
		"0.5":          right(number(0, 1, 2)),
		"0.05":         right(number(0, 1, 20)),
		"0.99":         right(number(0, 99, 100)),
		"1.0":          right(number(0, 1, 1)),
		"1.50":         right(number(0, 3, 2)),
		"12.34":        right(number(0, 617, 50)),
		"08.09":        right(number(0, 809, 100)),
		"000000000.01": right(number(0, 1, 100)),
		"999999999.0":  right(number(0, 999999999, 1)),
		"999999999.00": right(number(0, 999999999, 1)),
		"1 2":          right(number(0, 1, 1), number(2, 2, 1)),
		"1-2":          right(number(0, 1, 1), sign(1, "-"), number(2, 2, 1)),
		"-1":           right(sign(0, "-"), number(1, 1, 1)),
		"+1":           right(sign(0, "+"), number(1, 1, 1)),
		"1.5;":         right(number(0, 3, 2), sign(3, ";")),
		"a1":           right(word(0, "a1")),
		"a 1":          right(word(0, "a"), number(2, 1, 1)),
	})
}

// P7.1: numbers that do not have the form.
func TestFormOfNumbers(t *testing.T) {
	texts := []string{
		"1.", "0.", "1..", "1..2", "1.2.", "1.2.3", "1.2.34", "1.23.4", "1...2", "123456789.", "1.000", "1.234", "0.001", "1.0000", "1.23456789",
		"1234567890", "0000000000", "0000000001", "1000000000", "12345678901234567890123", "1234567890.1", "1234567890.", "0000000000.00",
		"1a", "12a", "1a2", "1z", "1_", "1_000", "1.a", "1.2a", "1.a2", "1._", "1.2_", "1_.2", "1e5", "0x1", "0b1", "0o7", "1.5e2", "123456789a", "1234567890a", "0_", "9_9", "1.1_0",
	}
	for _, text := range texts {
		expect(t, map[string]outcome{
			text:               wrong(api.ErrForm, 0),
			"a " + text:        wrong(api.ErrForm, 2),
			text + " a":        wrong(api.ErrForm, 0),
			";" + text + "; !": wrong(api.ErrForm, 1),
			text + "A":         wrong(api.ErrForm, 0),
		})
	}
	expect(t, map[string]outcome{
		".5":                      wrong(api.ErrSyntax, 0),
		".":                       wrong(api.ErrSyntax, 0),
		"1 .5":                    wrong(api.ErrSyntax, 2),
		"1A":                      wrong(api.ErrSyntax, 1),
		"1é":                      wrong(api.ErrSyntax, 1),
		"1'000":                   wrong(api.ErrSyntax, 1),
		strings.Repeat("1", 8000): wrong(api.ErrForm, 0),
		strings.Repeat("0", 8000): wrong(api.ErrForm, 0),
	})
}

// P7.1: numbers whose value is no number of layer 1 because its numerator is too great when it is reduced, and others that are just small enough.
func TestRangeOfNumbers(t *testing.T) {
	expect(t, map[string]outcome{
		"10000000.00":   right(number(0, 10000000, 1)),
		"10000000.01":   wrong(api.ErrRange, 0),
		"9999999.99":    right(number(0, 999999999, 100)),
		"20000000.01":   wrong(api.ErrRange, 0),
		"20000000.02":   wrong(api.ErrRange, 0),
		"19999999.98":   right(number(0, 999999999, 50)),
		"20000000.00":   right(number(0, 20000000, 1)),
		"40000000.04":   wrong(api.ErrRange, 0),
		"39999999.96":   right(number(0, 999999999, 25)),
		"99999999.9":    right(number(0, 999999999, 10)),
		"99999999.90":   right(number(0, 999999999, 10)),
		"99999999.99":   wrong(api.ErrRange, 0),
		"100000000.1":   wrong(api.ErrRange, 0),
		"199999999.8":   right(number(0, 999999999, 5)),
		"200000000.2":   wrong(api.ErrRange, 0),
		"499999999.5":   right(number(0, 999999999, 2)),
		"499999999.50":  right(number(0, 999999999, 2)),
		"500000000.0":   right(number(0, 500000000, 1)),
		"500000000.5":   wrong(api.ErrRange, 0),
		"249999999.75":  right(number(0, 999999999, 4)),
		"250000000.00":  right(number(0, 250000000, 1)),
		"250000000.25":  wrong(api.ErrRange, 0),
		"49999999.95":   right(number(0, 999999999, 20)),
		"50000000.05":   wrong(api.ErrRange, 0),
		"999999999.99":  wrong(api.ErrRange, 0),
		"999999999.01":  wrong(api.ErrRange, 0),
		"123456789.10":  wrong(api.ErrRange, 0),
		"a 123456789.1": wrong(api.ErrRange, 2),
		"123456789.123": wrong(api.ErrForm, 0),
		"999999999.9 !": wrong(api.ErrRange, 0),
		"! 999999999.9": wrong(api.ErrSyntax, 0),
	})
}
