package lexer

import "strings"

func isLetter(c byte) bool { return 'a' <= c && c <= 'z' }

func isDigit(c byte) bool { return '0' <= c && c <= '9' }

func isInWord(c byte) bool { return isLetter(c) || isDigit(c) || c == '_' }

// isInNumber reports whether a byte goes on with a number; letters do, so that a number with a letter in it is an error, and not a number and a word.
func isInNumber(c byte) bool { return isInWord(c) || c == '.' }

func isInLine(c byte) bool { return c != '\n' }

// beginning returns the longest beginning of a string with bytes of one kind.
func beginning(s string, is func(c byte) bool) string {
	for i := range len(s) {
		if !is(s[i]) {
			return s[:i]
		}
	}
	return s
}

// isDigits reports whether a string consists of digits, at least one and at most a number of them.
func isDigits(s string, most int) bool {
	return s != "" && len(s) <= most && beginning(s, isDigit) == s
}

// signLength returns how many bytes the longest sign at the beginning of a string has, or 0 if none begins there; the string is not empty.
func signLength(s string) int {
	isEqualNext := strings.HasPrefix(s[1:], "=")
	switch s[0] {
	case '!':
		// It is the only one of the three that is no sign alone.
		if !isEqualNext {
			return 0
		}
		fallthrough
	case '<', '>':
		if isEqualNext {
			return 2
		}
		fallthrough
	case '{', '}', '(', ')', ';', ',', ':', '+', '-', '*', '/', '=':
		return 1
	}
	return 0
}
