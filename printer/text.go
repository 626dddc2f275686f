package printer

import "strings"

// text is a row of tokens with the blanks between them; last is the last token so far.
type text struct {
	strings.Builder
	last string
}

// add writes tokens, each one with a blank before it, if there is one.
func (t *text) add(tokens ...string) {
	for _, token := range tokens {
		if !isBegin(t.last) && !isEnd(token) {
			t.WriteByte(' ')
		}
		t.WriteString(token)
		t.last = token
	}
}

// isBegin reports whether no blank stands behind a token. The empty one is that before the first one, and a line feed ends a line like a token.
func isBegin(token string) bool {
	switch token {
	case "", "\n", "(", "min", "max":
		return true
	}
	return false
}

// isEnd reports whether no blank stands before a token.
func isEnd(token string) bool {
	switch token {
	case ")", ",", ":", ";", "\n":
		return true
	}
	return false
}
