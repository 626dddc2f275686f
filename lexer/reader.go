package lexer

import (
	"strconv"
	"strings"

	"cohousing/api"
	"cohousing/rational"
)

const (
	// wholeDigits is how many digits a number has at most before its point.
	wholeDigits = 9
	// fractionDigits is how many digits a number has at most behind its point.
	fractionDigits = 2
)

// reader reads a source from its beginning; at is the offset of the next byte. It passes a token only when that is known to be right, so that an error is always found at this offset.
type reader struct {
	source string
	at     int
}

// failure is the value of the panic by which a reader gives up: an error, and the offset of the byte at which it is found.
type failure struct {
	e  api.Errno
	at int
}

// fail gives up with an error at the next byte.
func (r *reader) fail(e api.Errno) { panic(failure{e, r.at}) }

// tokens reads the whole source.
func (r *reader) tokens() []api.Token {
	if len(r.source) > api.MaxSource {
		r.fail(api.ErrLimit)
	}
	var tokens []api.Token
	for r.skipGaps(); r.at < len(r.source); r.skipGaps() {
		if len(tokens) == api.MaxTokens {
			r.fail(api.ErrLimit)
		}
		tokens = append(tokens, r.token())
	}
	return tokens
}

// skipGaps passes all gaps before the next token.
func (r *reader) skipGaps() {
	for r.at < len(r.source) {
		switch r.source[r.at] {
		case ' ', '\t', '\n', '\r':
			r.at++
		case '#':
			r.at += len(r.row(isInLine))
		default:
			return
		}
	}
}

// token reads the token that begins with the next byte.
func (r *reader) token() api.Token {
	read := r.sign
	switch first := r.source[r.at]; {
	case isLetter(first):
		read = r.word
	case isDigit(first):
		read = r.number
	}
	return read()
}

// word reads a word.
func (r *reader) word() api.Token {
	text := r.row(isInWord)
	if len(text) > api.MaxName {
		r.fail(api.ErrLimit)
	}
	return r.pass(text, api.Token{Kind: api.TokWord, Text: strings.Clone(text)})
}

// number reads a number.
func (r *reader) number() api.Token {
	text := r.row(isInNumber)
	whole, fraction, isPointed := strings.Cut(text, ".")
	if !isDigits(whole, wholeDigits) || isPointed && !isDigits(fraction, fractionDigits) {
		r.fail(api.ErrForm)
	}
	// So few digits are always an int.
	hundredths, _ := strconv.Atoi(whole + (fraction + "00")[:fractionDigits])
	n, e := rational.Make(hundredths, 100)
	if e != api.OK {
		r.fail(api.ErrRange)
	}
	return r.pass(text, api.Token{Kind: api.TokNumber, N: n})
}

// sign reads a sign; without one, no token begins here.
func (r *reader) sign() api.Token {
	rest := r.source[r.at:]
	text := rest[:signLength(rest)]
	if text == "" {
		r.fail(api.ErrSyntax)
	}
	return r.pass(text, api.Token{Kind: api.TokPunct, Text: strings.Clone(text)})
}

// pass returns a token that has its text here, and goes on behind this text.
func (r *reader) pass(text string, t api.Token) api.Token {
	t.At = r.at
	r.at += len(text)
	return t
}

// row returns the next bytes, as many of one kind as there are.
func (r *reader) row(is func(c byte) bool) string { return beginning(r.source[r.at:], is) }
