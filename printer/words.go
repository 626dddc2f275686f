package printer

import "cohousing/api"

// unitWord returns the word of a unit, or none if it is not one of the five.
func unitWord(unit api.Unit) string {
	switch unit {
	case api.Unit{Flag: true}:
		return "flag"
	case api.Unit{}:
		return "number"
	case api.Unit{Money: 1}:
		return "money"
	case api.Unit{Area: 1}:
		return "area"
	case api.Unit{Days: 1}:
		return "days"
	}
	return ""
}

// kindWord returns the word of a kind of rules, or none if there is no such kind.
func kindWord(kind int) string {
	switch kind {
	case api.RuleCharge:
		return "charge"
	case api.RuleRight:
		return "right"
	case api.RuleDuty:
		return "duty"
	case api.RuleBan:
		return "ban"
	case api.RuleRooms:
		return "rooms"
	case api.RuleVote:
		return "vote"
	case api.RuleNotice:
		return "notice"
	}
	return ""
}
