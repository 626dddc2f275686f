// Package rational is layer 1: it calculates exactly with rational numbers. See shared/doc/01-rational.md.
package rational

import (
	"cmp"
	"strconv"
	"strings"

	"cohousing/api"
)

// Valid reports whether a number is reduced, and within the limits.
func Valid(r api.Rat) bool {
	if r.N < -api.MaxRat || r.N > api.MaxRat || r.D < 1 || r.D > api.MaxRat {
		return false
	}
	return divisor(size(r.N), size(r.D)) == 1
}

// Make returns the number n / d.
func Make(n, d int) (r api.Rat, e api.Errno) {
	defer func() {
		if recover() != nil {
			r, e = api.Rat{}, api.ErrRange
		}
	}()
	if d == 0 {
		return api.Rat{}, api.ErrZero
	}
	return reduce(fraction{n, d}), api.OK
}

// Add returns the sum of two numbers.
func Add(a, b api.Rat) (api.Rat, api.Errno) { return operate(a, b, fraction.plus) }

// Sub returns the difference of two numbers.
func Sub(a, b api.Rat) (api.Rat, api.Errno) { return operate(a, b, fraction.minus) }

// Mul returns the product of two numbers.
func Mul(a, b api.Rat) (api.Rat, api.Errno) { return operate(a, b, fraction.times) }

// Div returns the quotient of two numbers.
func Div(a, b api.Rat) (api.Rat, api.Errno) { return operate(a, b, fraction.over) }

// Compare returns -1, 0 or 1.
func Compare(a, b api.Rat) (int, api.Errno) {
	if !Valid(a) || !Valid(b) {
		return 0, api.ErrArg
	}
	return cmp.Compare(a.N*b.D, b.N*a.D), api.OK
}

// Floor returns the greatest integer that is not above a number.
func Floor(a api.Rat) (int, api.Errno) {
	if !Valid(a) {
		return 0, api.ErrArg
	}
	whole := a.N / a.D
	// Go rounds towards 0, which is up for what is below 0.
	if a.N%a.D < 0 {
		whole--
	}
	return whole, api.OK
}

// Text returns a number as a string.
func Text(a api.Rat) (string, api.Errno) {
	if !Valid(a) {
		return "", api.ErrArg
	}
	text := strconv.Itoa(a.N)
	if a.D != 1 {
		text += "/" + strconv.Itoa(a.D)
	}
	return text, api.OK
}

// Parse returns the number with a string.
func Parse(s string) (api.Rat, api.Errno) {
	above, below, divided := strings.Cut(s, "/")
	if !divided {
		below = "1"
	}
	n, bad := strconv.Atoi(above)
	if bad != nil {
		return api.Rat{}, api.ErrForm
	}
	d, bad := strconv.Atoi(below)
	if bad != nil {
		return api.Rat{}, api.ErrForm
	}
	r := api.Rat{N: n, D: d}
	// Atoi takes signs and zeros that no text has; a number has one text alone, so any other way to write it differs from that.
	if text, e := Text(r); e != api.OK || text != s {
		return api.Rat{}, api.ErrForm
	}
	return r, api.OK
}
