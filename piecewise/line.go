package piecewise

import (
	"cohousing/api"
	"cohousing/rational"
)

// value is whole plus rest, a proper fraction of the same sign. A value may be beyond the numbers of layer 1, but its rest is one of them, and equal values are equal structs.
type value struct {
	whole int
	rest  api.Rat
}

// quotient returns n divided by d, which is from 1 to MaxRat.
func quotient(n, d int) value {
	rest, _ := rational.Make(n%d, d)
	return value{n / d, rest}
}

// isLess reports whether a value is less than another one.
func (v value) isLess(w value) bool {
	if v.whole != w.whole {
		return v.whole < w.whole
	}
	order, _ := rational.Compare(v.rest, w.rest)
	return order < 0
}

// number returns the number of layer 1 that has a value.
func (v value) number() (api.Rat, api.Errno) {
	return rational.Make(v.whole*v.rest.D+v.rest.N, v.rest.D)
}

// line has at x the value (base + rise*x) / denom. No int overflows: from 0 to MaxX the line of a piece has values within 1.1 * 10^10 and a denom of at most 10^4, and the sum of two such lines a denom of at most 10^8.
type line struct{ base, rise, denom int }

// lineOf returns the line of a piece.
func lineOf(p api.Piece) line {
	rise := p.Slope.N * p.Value.D
	return line{p.Value.N*p.Slope.D - rise*p.From, rise, p.Value.D * p.Slope.D}
}

// plus returns the line with the sums of the values of two lines.
func (l line) plus(m line) line {
	return line{l.base*m.denom + m.base*l.denom, l.rise*m.denom + m.rise*l.denom, l.denom * m.denom}
}

// at returns the value of a line.
func (l line) at(x int) value { return quotient(l.base+l.rise*x, l.denom) }

// slope returns the slope of a line.
func (l line) slope() value { return quotient(l.rise, l.denom) }

// isSame reports whether two lines have the same values everywhere: if they have the same slope, one integer tells it of all.
func (l line) isSame(m line) bool { return l.slope() == m.slope() && l.at(0) == m.at(0) }
