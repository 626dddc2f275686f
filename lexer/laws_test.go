package lexer_test

import (
	"math/rand/v2"
	"regexp"
	"slices"
	"strconv"
	"strings"
	"testing"

	"cohousing/api"
)

// gapsBetween are gaps that end, with a token behind them; the last ones of a source need not end.
var (
	gapsBetween = regexp.MustCompile(`^(?:[ \t\n\r]|#[^\n]*\n)*$`)
	gapsAtEnd   = regexp.MustCompile(`^(?:[ \t\n\r]|#[^\n]*\n)*(?:#[^\n]*)?$`)
)

// moved are tokens with other offsets.
func moved(tokens []api.Token, by int) []api.Token {
	all := slices.Clone(tokens)
	for i := range all {
		all[i].At += by
	}
	return all
}

// unplaced are tokens without their offsets.
func unplaced(tokens []api.Token) []api.Token {
	all := slices.Clone(tokens)
	for i := range all {
		all[i].At = 0
	}
	return all
}

// rightSources calls a function with sources without errors, and their tokens.
func rightSources(t *testing.T, do func(r *rand.Rand, source string, tokens []api.Token)) {
	t.Helper()
	r := dice()
	hold := func(source string) {
		got := lex(source)
		if got.e != api.OK || got.at != 0 {
			t.Fatalf("%q: error %d at %d", source, got.e, got.at)
		}
		do(r, source, got.tokens)
	}
	hold("")
	hold("#")
	for i := range 3000 {
		hold(rightSource(r, 1+i%20))
	}
	for range 20 {
		hold(rightSource(r, 300))
	}
	source, _ := full()
	hold(source)
}

// P7.2: each token stands at its offset, behind the one before, and everything else are gaps.
func TestOffsets(t *testing.T) {
	sources(func(source string) {
		got := lex(source)
		end := 0
		for _, token := range got.tokens {
			if token.At < end || !gapsBetween.MatchString(source[end:token.At]) {
				t.Fatalf("%q: no gap from %d to %d", source, end, token.At)
			}
			alone := lex(textAt(source, token))
			if len(alone.tokens) != 1 || !slices.Equal(alone.tokens, unplaced([]api.Token{token})) {
				t.Fatalf("%q: %v does not stand at its offset", source, token)
			}
			if !strings.HasPrefix(source[token.At:], textAt(source, token)) {
				t.Fatalf("%q: %v stands elsewhere", source, token)
			}
			end = token.At + len(textAt(source, token))
		}
		if got.e == api.OK && !gapsAtEnd.MatchString(source[end:]) {
			t.Fatalf("%q: no gap from %d on", source, end)
		}
	})
}

// P7.3: a gap before a token moves this one and those behind it; one behind the last token moves none.
func TestInsertedGaps(t *testing.T) {
	rightSources(t, func(r *rand.Rand, source string, tokens []api.Token) {
		for range 10 {
			i := r.IntN(len(tokens) + 1)
			at, more := len(source), gap(r)
			if i < len(tokens) {
				at = tokens[i].At
			} else if strings.Contains(source, "#") {
				more = "\n" + more
			}
			if len(source+more) > 8000 {
				continue
			}
			want := right(slices.Concat(tokens[:i], moved(tokens[i:], len(more)))...)
			if got := lex(source[:at] + more + source[at:]); !got.isSame(want) {
				t.Fatalf("%q with %q at %d: got %v, want %v", source, more, at, got, want)
			}
		}
	})
}

// P7.3: a gap directly behind the last token, with or without others behind it.
func TestGapsBehindLast(t *testing.T) {
	for _, last := range []string{"a", "1", "1.5", "<", "<=", ";", "abcdefghijklmnop", "123456789"} {
		for _, more := range []string{" ", "\t", "\n", "\r", "#", "#=", "#\n", "# b\n\n", "#\xff"} {
			for _, rest := range []string{"", " ", "\n", "\n# b"} {
				want := lex("x " + last)
				if got := lex("x " + last + more + rest); want.e != api.OK || len(want.tokens) != 2 || !got.isSame(want) {
					t.Errorf("%q with %q, %q: got %v, want %v", last, more, rest, got, want)
				}
			}
		}
	}
}

// P7.4: the tokens of two sources with a line feed between them.
func TestJoining(t *testing.T) {
	last, tokens := "", []api.Token(nil)
	rightSources(t, func(r *rand.Rand, source string, next []api.Token) {
		joined := last + "\n" + source
		if len(joined) <= 8000 && len(tokens)+len(next) <= 2000 {
			want := right(slices.Concat(tokens, moved(next, len(last)+1))...)
			if got := lex(joined); !got.isSame(want) {
				t.Fatalf("%q and %q: got %v, want %v", last, source, got, want)
			}
		}
		last, tokens = source, next
	})
}

// P7.4: sources whose tokens would be others without the line feed, and sources that end with a comment.
func TestJoiningAtEnds(t *testing.T) {
	ends := []string{"", "a", "1", "1.5", "<", "!=", "=", "12345678", "abcdefgh", "#", "a#", "# x", " ", "\n", "\r", "; #!"}
	for _, first := range ends {
		for _, second := range ends {
			a, b := lex(first), lex(second)
			want := right(slices.Concat(a.tokens, moved(b.tokens, len(first)+1))...)
			if got := lex(first + "\n" + second); a.e != api.OK || b.e != api.OK || !got.isSame(want) {
				t.Errorf("%q and %q: got %v, want %v", first, second, got, want)
			}
		}
	}
}

// P7.4: if the first source has an error, so have both; if only the second one has, its error is moved.
func TestJoiningErrors(t *testing.T) {
	r := dice()
	for range 3000 {
		first, second := anySource(r, 6), anySource(r, 6)
		a, b := lex(first), lex(second)
		want := a
		if a.e == api.OK && b.e != api.OK {
			want = wrong(b.e, b.at+len(first)+1)
		} else if a.e == api.OK {
			want = right(slices.Concat(a.tokens, moved(b.tokens, len(first)+1))...)
		}
		if got := lex(first + "\n" + second); !got.isSame(want) {
			t.Fatalf("%q and %q: got %v, want %v", first, second, got, want)
		}
	}
}

// written is a token as a text; the denominator of a number divides 100.
func written(token api.Token) string {
	if token.Kind != api.TokNumber {
		return token.Text
	}
	hundredths := token.N.N * (100 / token.N.D)
	text := strconv.Itoa(hundredths / 100)
	if rest := hundredths % 100; rest != 0 {
		text += "." + strconv.Itoa(100 + rest)[1:]
	}
	return text
}

// P7.5: tokens that are written with blanks between them are read as the same ones.
func TestWriting(t *testing.T) {
	rightSources(t, func(r *rand.Rand, source string, tokens []api.Token) {
		texts := make([]string, len(tokens))
		for i, token := range tokens {
			texts[i] = written(token)
		}
		for _, blank := range []string{" ", "\t", "\n", "\r", " \r\n "} {
			text := strings.Join(texts, blank)
			if len(text) > 8000 {
				continue
			}
			got := lex(text)
			if got.e != api.OK || !slices.Equal(unplaced(got.tokens), unplaced(tokens)) {
				t.Fatalf("%q, written %q: got %v, want %v", source, text, got, tokens)
			}
		}
	})
}

// P7.5: all pairs of tokens of different kinds, also such whose texts together would be other tokens.
func TestWritingPairs(t *testing.T) {
	texts := append(every(), "a", "abcdefgh", "a_1", "abcdefghijklmnop", "0", "1", "12345678", "999999999", "0.5", "12.34", "9999999.99", "if", "x0")
	for _, a := range texts {
		for _, b := range texts {
			one, two := lex(a), lex(b)
			want := right(slices.Concat(one.tokens, moved(two.tokens, len(a)+1))...)
			if got := lex(a + " " + b); len(want.tokens) != 2 || !got.isSame(want) {
				t.Errorf("%q and %q: got %v, want %v", a, b, got, want)
			}
		}
	}
}

// P7.6: the part of a source before its error has none; and a longer one has no error at another byte.
func TestBeforeErrors(t *testing.T) {
	count := 0
	sources(func(source string) {
		got := lex(source)
		if got.e == api.OK {
			return
		}
		count++
		if got.at < 0 || got.at >= len(source) || len(got.tokens) != 0 {
			t.Fatalf("%q: got %v", source, got)
		}
		if before := lex(source[:got.at]); before.e != api.OK || before.at != 0 {
			t.Fatalf("%q: error %d at %d, but before it %d at %d", source, got.e, got.at, before.e, before.at)
		}
		for _, end := range []int{got.at + 1, (got.at + 1 + len(source)) / 2, len(source)} {
			part := lex(source[:end])
			if len(source) <= 8000 && part.e != api.OK && part.at != got.at {
				t.Fatalf("%q: error at %d, but with %d bytes at %d", source, got.at, end, part.at)
			}
		}
	})
	if count < 1000 {
		t.Errorf("only %d sources with an error", count)
	}
}

// P7.6: the same for errors of the limits.
func TestBeforeLimits(t *testing.T) {
	tokens, _ := full()
	for _, source := range []string{tokens + " # x\n a", tokens + "\n!", strings.Repeat("a", 17), "1; " + strings.Repeat("a", 17), strings.Repeat(" ", 8001), strings.Repeat("!", 8001)} {
		got := lex(source)
		if got.e != api.ErrLimit || lex(source[:got.at]).e != api.OK {
			t.Errorf("%q: error %d at %d, but before it %d", source, got.e, got.at, lex(source[:got.at]).e)
		}
	}
}

// P7.7: zeros in front of a number, and at the end of its fraction, as many as the form lets in.
func TestZeros(t *testing.T) {
	r := dice()
	texts := []string{"0", "1", "10", "999999999", "99999999", "123456789", "0.1", "0.5", "1.0", "0.0", "00.5", "99999999.9", "9999999.99", "499999999.5", "200000000.2", "123456789.1", "123456789.12"}
	for range 2000 {
		texts = append(texts, digitsOf(r, 1+r.IntN(9)), digitsOf(r, 1+r.IntN(9))+"."+digitsOf(r, 1), digitsOf(r, 1+r.IntN(9))+"."+digitsOf(r, 2))
	}
	for _, text := range texts {
		want := lex(text)
		if want.e != api.OK && want.e != api.ErrRange {
			t.Fatalf("%q: error %d", text, want.e)
		}
		whole, fraction, isPointed := strings.Cut(text, ".")
		for zeros := ""; len(zeros+whole) <= 9; zeros += "0" {
			if got := lex(zeros + text); !got.isSame(want) {
				t.Fatalf("%q: got %v, want %v", zeros+text, got, want)
			}
			if got := lex(zeros + text + "0"); isPointed && len(fraction) == 1 && !got.isSame(want) {
				t.Fatalf("%q: got %v, want %v", zeros+text+"0", got, want)
			}
			for _, point := range []string{".0", ".00"} {
				if got := lex(zeros + text + point); !isPointed && !got.isSame(want) {
					t.Fatalf("%q: got %v, want %v", zeros+text+point, got, want)
				}
			}
		}
	}
}

// P7.7: one zero more than the form lets in.
func TestTooManyZeros(t *testing.T) {
	expect(t, map[string]outcome{
		"0000000005":   wrong(api.ErrForm, 0),
		"000000005":    right(number(0, 5, 1)),
		"0000000000.5": wrong(api.ErrForm, 0),
		"000000000.5":  right(number(0, 1, 2)),
		"0.500":        wrong(api.ErrForm, 0),
		"0.50":         right(number(0, 1, 2)),
		"5.000":        wrong(api.ErrForm, 0),
		"5.00":         right(number(0, 5, 1)),
	})
}
