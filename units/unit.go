package units

import "cohousing/api"

// maxExponent is the greatest exponent of a unit; the least one is below 0 by as much.
const maxExponent = 3

// isBasic reports whether a unit is that of flags, that of pure numbers, or money, area or days alone.
func isBasic(u api.Unit) bool {
	switch u {
	case api.Unit{Flag: true}, api.Unit{}, api.Unit{Money: 1}, api.Unit{Area: 1}, api.Unit{Days: 1}:
		return true
	}
	return false
}

// areExponents reports whether numbers can be exponents of a unit.
func areExponents(l ...int) bool {
	for _, n := range l {
		if n < -maxExponent || n > maxExponent {
			return false
		}
	}
	return true
}
