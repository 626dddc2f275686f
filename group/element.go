package group

import "cohousing/api"

// isBase reports whether a number is an element whose powers are all elements, as those of 1 are not.
func isBase(a int) bool { return a != 1 && Member(a) }

func isExponent(x int) bool { return 0 <= x && x < api.Q }

// isSecret leaves out 0, which would show itself by the power 1.
func isSecret(x int) bool { return x != 0 && isExponent(x) }

// product multiplies modulo P; both numbers are below P, so that no int overflows on the way.
func product(a, b int) int { return a * b % api.P }

// power returns a number below P to the power of an integer that is not negative, modulo P.
func power(a, x int) int {
	result, square := 1, a
	times := func(n int) int { return product(n, square) }
	for ; x > 0; x /= 2 {
		if x%2 == 1 {
			result = times(result)
		}
		square = times(square)
	}
	return result
}
