package parser

import "cohousing/api"

// isReserved reports whether a word cannot be a name.
func isReserved(word string) bool {
	switch word {
	case "about", "and", "area", "days", "else", "flag", "from", "give", "if", "known", "max", "min", "money", "not", "number", "or", "then", "to", "true", "until", "when":
		return true
	}
	return false
}

// unitOf returns the unit with a name.
func unitOf(word string) (unit api.Unit, is bool) {
	switch word {
	case "flag":
		return api.Unit{Flag: true}, true
	case "number":
		return api.Unit{}, true
	case "money":
		return api.Unit{Money: 1}, true
	case "area":
		return api.Unit{Area: 1}, true
	case "days":
		return api.Unit{Days: 1}, true
	}
	return api.Unit{}, false
}

// kindOf returns the kind of rules with a name, or 0 if there is none.
func kindOf(word string) int {
	switch word {
	case "charge":
		return api.RuleCharge
	case "right":
		return api.RuleRight
	case "duty":
		return api.RuleDuty
	case "ban":
		return api.RuleBan
	case "rooms":
		return api.RuleRooms
	case "vote":
		return api.RuleVote
	case "notice":
		return api.RuleNotice
	}
	return 0
}
