package units

import "cohousing/api"

// isName reports whether a text is a name.
func isName(text string) bool {
	if text == "" || len(text) > api.MaxName || !isLetter(text[0]) || isReserved(text) {
		return false
	}
	for i := range len(text) {
		if c := text[i]; !isLetter(c) && !isDigit(c) && c != '_' {
			return false
		}
	}
	return true
}

func isLetter(c byte) bool { return 'a' <= c && c <= 'z' }

func isDigit(c byte) bool { return '0' <= c && c <= '9' }

// isReserved reports whether a word cannot be a name.
func isReserved(word string) bool {
	switch word {
	case "about", "from", "until", "known", "when", "give", "if", "then", "else", "or", "and", "not", "true", "min", "max", "to", "flag", "number", "money", "area", "days":
		return true
	}
	return false
}
