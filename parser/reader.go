package parser

import (
	"cohousing/api"
	"cohousing/lexer"
)

// reader reads the tokens of a source from their beginning; next is the index of the next one, and end the length of the source. It passes a token only when that can stand where it is.
type reader struct {
	tokens    []api.Token
	next, end int
	operators map[string]operator
}

// failure is the value of the panic by which a reader gives up: an error and its byte offset.
type failure api.Diag

// fail gives up with an error at a byte offset.
func fail(e api.Errno, at int) { panic(failure{At: at, E: e}) }

// errorOf returns the error with which a call gives up, or the zero value if it does not.
func errorOf(read func()) (d api.Diag) {
	defer func() {
		if f, is := recover().(failure); is {
			d = api.Diag(f)
		}
	}()
	read()
	return api.Diag{}
}

// newReader returns a reader of a source; it gives up with an error of the lexer.
func newReader(source string) *reader {
	tokens, e, at := lexer.Lex(source)
	if e != api.OK {
		fail(e, at)
	}
	return &reader{tokens: tokens, end: len(source), operators: operators()}
}

func (r *reader) isAtEnd() bool { return r.next == len(r.tokens) }

// peek returns the next token; behind the last one this is a token of no kind, at the end of the source.
func (r *reader) peek() api.Token {
	if r.isAtEnd() {
		return api.Token{At: r.end}
	}
	return r.tokens[r.next]
}

// refuse gives up because the next token cannot stand here.
func (r *reader) refuse() { fail(api.ErrSyntax, r.peek().At) }

// passes reports whether a word or sign is next, and goes on behind it if so.
func (r *reader) passes(text string) bool {
	if r.peek().Text != text {
		return false
	}
	r.next++
	return true
}

// need passes a word or sign, without which nothing can go on.
func (r *reader) need(text string) {
	if !r.passes(text) {
		r.refuse()
	}
}

// leaveOut passes all tokens up to and including the next `;`.
func (r *reader) leaveOut() {
	for !r.isAtEnd() && !r.passes(";") {
		r.next++
	}
}

// name reads a name.
func (r *reader) name() string {
	t := r.peek()
	if t.Kind != api.TokWord || isReserved(t.Text) {
		r.refuse()
	}
	r.next++
	return t.Text
}

// whole reads a whole number.
func (r *reader) whole() int {
	t := r.peek()
	if t.Kind != api.TokNumber {
		r.refuse()
	}
	if t.N.D != 1 {
		fail(api.ErrRange, t.At)
	}
	r.next++
	return t.N.N
}

// unit reads a unit.
func (r *reader) unit() api.Unit {
	unit, is := unitOf(r.peek().Text)
	if !is {
		r.refuse()
	}
	r.next++
	return unit
}
