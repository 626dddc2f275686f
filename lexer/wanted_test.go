package lexer_test

import (
	"math/big"
	"math/rand/v2"
	"regexp"
	"strings"
	"testing"

	"cohousing/api"
)

var (
	gapShape    = regexp.MustCompile(`^(?:[ \t\n\r]|#[^\n]*)+`)
	wordShape   = regexp.MustCompile(`^[a-z][a-z0-9_]*`)
	numberShape = regexp.MustCompile(`^[0-9][0-9a-z_.]*`)
	numberForm  = regexp.MustCompile(`^[0-9]{1,9}(?:\.[0-9]{1,2})?$`)
	signShape   = regexp.MustCompile(`^(?:[!<>]=|[{}();,:+*/=<>-])`)
)

// wanted is what Lex should return, by expressions for the shapes of tokens.
func wanted(source string) outcome {
	if len(source) > 8000 {
		return wrong(api.ErrLimit, 0)
	}
	var tokens []api.Token
	for at := len(gapShape.FindString(source)); at < len(source); at += len(gapShape.FindString(source[at:])) {
		if len(tokens) == 2000 {
			return wrong(api.ErrLimit, at)
		}
		token, e := wantedToken(source[at:])
		if e != api.OK {
			return wrong(e, at)
		}
		token.At = at
		tokens = append(tokens, token)
		at += len(textAt(source, token))
	}
	return right(tokens...)
}

// wantedToken is the token at the beginning of a source, with the offset 0.
func wantedToken(source string) (api.Token, api.Errno) {
	if text := wordShape.FindString(source); text != "" {
		if len(text) > 16 {
			return api.Token{}, api.ErrLimit
		}
		return word(0, text), api.OK
	}
	if text := signShape.FindString(source); text != "" {
		return sign(0, text), api.OK
	}
	text := numberShape.FindString(source)
	if text == "" {
		return api.Token{}, api.ErrSyntax
	}
	if !numberForm.MatchString(text) {
		return api.Token{}, api.ErrForm
	}
	value, _ := new(big.Rat).SetString(text)
	n, d := value.Num().Int64(), value.Denom().Int64()
	if n > 1000000000 || d > 1000000000 {
		return api.Token{}, api.ErrRange
	}
	return number(0, int(n), int(d)), api.OK
}

// textAt is the text of a token in its source.
func textAt(source string, token api.Token) string {
	if token.Kind == api.TokNumber {
		return numberShape.FindString(source[token.At:])
	}
	return token.Text
}

// dice are random numbers that are the same each time.
func dice() *rand.Rand { return rand.New(rand.NewPCG(7, 21)) }

// pick is one of some strings.
func pick(r *rand.Rand, texts []string) string { return texts[r.IntN(len(texts))] }

// many is a string of up to a number of bytes of an alphabet, at least one.
func many(r *rand.Rand, alphabet string, most int) string {
	b := make([]byte, 1+r.IntN(most))
	for i := range b {
		b[i] = alphabet[r.IntN(len(alphabet))]
	}
	return string(b)
}

const (
	letters = "abcdefghijklmnopqrstuvwxyz"
	digits  = "0123456789"
)

// rightToken is the text of a token; numbers have at most seven digits before the point, so that they have a value.
func rightToken(r *rand.Rand) string {
	switch r.IntN(4) {
	case 0:
		return many(r, letters, 1) + many(r, letters+digits+"_", 16)[1:]
	case 1:
		return many(r, digits, 9)
	case 2:
		return many(r, digits, 7) + "." + many(r, digits, 2)
	}
	return pick(r, every())
}

// gap is a gap that ends, so that a token can be behind it.
func gap(r *rand.Rand) string {
	gaps := []string{" ", "\t", "\n", "\r", "\r\n", "    ", "#\n", "# x\n", "#!12a\n", "##\n", "#\xff\x00é\r\n", " # 1\n\t"}
	return strings.Repeat(pick(r, gaps), 1+r.IntN(2))
}

// rightSource is a source without errors, with up to a number of tokens.
func rightSource(r *rand.Rand, most int) string {
	var source strings.Builder
	for range r.IntN(most + 1) {
		if source.Len() == 0 || r.IntN(2) == 0 {
			source.WriteString(gap(r))
		}
		text := rightToken(r)
		if wanted(source.String()+text).e != api.OK {
			text = "\n" + text
		}
		source.WriteString(text)
	}
	return source.String()
}

// anySource is a source of parts of tokens and gaps, most of which have an error.
func anySource(r *rand.Rand, most int) string {
	var source strings.Builder
	for range r.IntN(most + 1) {
		switch r.IntN(13) {
		case 0:
			source.WriteString(many(r, letters+digits+"_.", 20))
		case 1:
			source.WriteString(many(r, digits, 11))
		case 2:
			source.WriteString(many(r, digits, 9) + "." + many(r, digits, 3))
		case 3:
			source.WriteByte(byte(r.IntN(256)))
		case 4:
			source.WriteString(pick(r, []string{"!", ".", "_", "#", "é", "\x80", "A", "$", "="}))
		case 5, 6, 7, 8:
			source.WriteString(gap(r))
		default:
			source.WriteString(rightToken(r))
		}
	}
	return source.String()
}

// sources calls a function with sources of both kinds, short ones and long ones.
func sources(do func(source string)) {
	r := dice()
	for i := range 20000 {
		do(rightSource(r, 1+i%12))
		do(anySource(r, 1+i%12))
	}
	for range 50 {
		do(rightSource(r, 300))
		do(anySource(r, 2000))
	}
}

// P7.1 and P1: all sources of up to two bytes.
func TestAllShortSources(t *testing.T) {
	for n := range 1 + 256 + 256*256 {
		var b []byte
		if n > 256 {
			b = []byte{byte((n - 257) >> 8), byte(n - 257)}
		} else if n > 0 {
			b = []byte{byte(n - 1)}
		}
		if got, want := lex(string(b)), wanted(string(b)); !got.isSame(want) {
			t.Fatalf("%q: got %v, want %v", b, got, want)
		}
	}
}

// P7.1 and P1: all sources of up to five bytes of an alphabet with one of each sort.
func TestAllSourcesOfAnAlphabet(t *testing.T) {
	const alphabet = "a1_. \n#!<=;$\xff"
	layer := []string{""}
	for range 5 {
		var next []string
		for _, source := range layer {
			for i := range len(alphabet) {
				next = append(next, source+alphabet[i:i+1])
			}
		}
		layer = next
		for _, source := range layer {
			if got, want := lex(source), wanted(source); !got.isSame(want) {
				t.Fatalf("%q: got %v, want %v", source, got, want)
			}
		}
	}
}

// P7.1: numbers of all lengths before and behind the point, with few different digits, so that many have a value near the limit.
func TestAllNumbers(t *testing.T) {
	r := dice()
	for whole := 1; whole <= 11; whole++ {
		for fraction := -1; fraction <= 3; fraction++ {
			for range 500 {
				text := digitsOf(r, whole)
				if fraction >= 0 {
					text += "." + digitsOf(r, fraction)
				}
				if got, want := lex(text), wanted(text); !got.isSame(want) {
					t.Fatalf("%q: got %v, want %v", text, got, want)
				}
			}
		}
	}
}

// digitsOf is a number of digits, many of which are those of numbers whose value ends with zeros, or is near a power of ten.
func digitsOf(r *rand.Rand, count int) string {
	alphabet := pick(r, []string{"0", "9", "05", "059", "0123456789", "02468", "1", "10"})
	b := make([]byte, count)
	for i := range b {
		b[i] = alphabet[r.IntN(len(alphabet))]
	}
	return string(b)
}

// P7.1: any sources, also ones that are no text and ones that are too long.
func TestAnySources(t *testing.T) {
	count := map[api.Errno]int{}
	hold := func(source string) {
		got, want := lex(source), wanted(source)
		if !got.isSame(want) {
			t.Fatalf("%q: got %v, want %v", source, got, want)
		}
		count[got.e]++
	}
	sources(hold)
	r := dice()
	for range 20000 {
		b := make([]byte, r.IntN(40))
		for i := range b {
			b[i] = byte(r.Uint32())
		}
		hold(string(b))
	}
	for _, e := range []api.Errno{api.OK, api.ErrLimit, api.ErrRange, api.ErrForm, api.ErrSyntax} {
		if count[e] < 50 {
			t.Errorf("only %d sources with error %d", count[e], e)
		}
	}
}

// FuzzLex goes on with TestAnySources for as long as one likes: go test -fuzz FuzzLex ./lexer
func FuzzLex(f *testing.F) {
	for _, source := range []string{"", "fee 1 <= 12.50 # x", "a!b", "12a", "123456789.12", "abcdefghijklmnopq", "#\n\xff"} {
		f.Add(source)
	}
	f.Fuzz(func(t *testing.T, source string) {
		if got, want := lex(source), wanted(source); !got.isSame(want) {
			t.Errorf("%q: got %v, want %v", source, got, want)
		}
	})
}
