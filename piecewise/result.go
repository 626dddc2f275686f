package piecewise

import (
	"slices"

	"cohousing/api"
	"cohousing/rational"
)

// section is a piece to be, whose value and slope may still be beyond the limits: they count only if it is not left out.
type section struct {
	from int
	line line
}

// result returns sections as pieces, reduced, if they are within the limits.
func result(sections []section) ([]api.Piece, api.Errno) {
	var pieces []api.Piece
	for _, s := range reduced(sections) {
		pieces = append(pieces, s.piece())
	}
	return checked(pieces)
}

// reduced returns the sections without those that continue the one before; their list is not kept.
func reduced(sections []section) []section {
	return slices.CompactFunc(sections, func(s, t section) bool { return s.line.isSame(t.line) })
}

// piece returns a section as a piece; what is no number becomes the zero value, which is no number either, so that checked refuses it.
func (s section) piece() api.Piece {
	value, _ := s.line.at(s.from).number()
	slope, _ := s.line.slope().number()
	return api.Piece{From: s.from, Value: value, Slope: slope}
}

// times returns a piece times a number, with zero values as piece has them.
func times(p api.Piece, r api.Rat) api.Piece {
	value, _ := rational.Mul(p.Value, r)
	slope, _ := rational.Mul(p.Slope, r)
	return api.Piece{From: p.From, Value: value, Slope: slope}
}

// checked returns pieces if they are within the limits.
func checked(pieces []api.Piece) ([]api.Piece, api.Errno) {
	for _, p := range pieces {
		if !isWithinLimits(p) {
			return nil, api.ErrRange
		}
	}
	if len(pieces) > api.MaxPieces {
		return nil, api.ErrLimit
	}
	return pieces, api.OK
}

// isWithinLimits reports whether the value and the slope of a piece are as a function needs them.
func isWithinLimits(p api.Piece) bool {
	return rational.Valid(p.Value) && p.Value.D <= api.MaxDenom &&
		rational.Valid(p.Slope) && p.Slope.D <= api.MaxDenom && -api.MaxSlope <= p.Slope.N && p.Slope.N <= api.MaxSlope
}
