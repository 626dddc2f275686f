package amend

import (
	"iter"
	"slices"

	"cohousing/api"
	"cohousing/piecewise"
	"cohousing/rational"
)

// along are what a formula returns for a household with each value of a fact in place of its own, in order.
func along(f formula, d api.Decl, fact int, values []int) iter.Seq2[api.Rat, api.Errno] {
	return func(yield func(api.Rat, api.Errno) bool) {
		moved := slices.Clone(values)
		for x := d.Lo; x <= d.Hi; x++ {
			moved[fact] = x
			if !yield(f(moved)) {
				return
			}
		}
	}
}

// differences are those between each number and the next one.
func differences(points []api.Rat) iter.Seq2[api.Rat, api.Errno] {
	return func(yield func(api.Rat, api.Errno) bool) {
		for i, n := range points[1:] {
			if !yield(rational.Sub(n, points[i])) {
				return
			}
		}
	}
}

// collected returns numbers as a list, or the first error among them.
func collected(numbers iter.Seq2[api.Rat, api.Errno]) ([]api.Rat, api.Errno) {
	var all []api.Rat
	for n, e := range numbers {
		if e != api.OK {
			return nil, e
		}
		all = append(all, n)
	}
	return all, api.OK
}

// curve returns the function with some values from an integer on, if there is one.
func curve(from int, points []api.Rat) ([]api.Piece, api.Errno) {
	steps, e := collected(differences(points))
	if e != api.OK {
		return nil, e
	}
	pieces := fromZero(grown(from, points, steps))
	if len(pieces) > api.MaxPieces {
		return nil, api.ErrLimit
	}
	if !piecewise.Valid(pieces) {
		return nil, api.ErrRange
	}
	return pieces, api.OK
}

// grown returns the pieces with some values from an integer on, and the steps between these.
func grown(from int, points, steps []api.Rat) []api.Piece {
	pieces := []api.Piece{flat(from, points[0])}
	for i, step := range steps {
		last := &pieces[len(pieces)-1]
		switch {
		case last.From == from+i:
			last.Slope = step
		case last.Slope != step:
			// Up to here all steps were the slope, so this is the first value that is not on the line.
			pieces = append(pieces, flat(from+i+1, points[i+1]))
		}
	}
	return pieces
}

// flat returns a piece without a slope.
func flat(from int, value api.Rat) api.Piece {
	return api.Piece{From: from, Value: value, Slope: nothing()}
}

// fromZero returns pieces that begin at 0: up to the first one that has a slope, or begins there, the value stays what it is.
func fromZero(pieces []api.Piece) []api.Piece {
	if pieces[0].From == 0 {
		return pieces
	}
	first := flat(0, pieces[0].Value)
	if pieces[0].Slope == first.Slope {
		pieces = pieces[1:]
	}
	return slices.Insert(pieces, 0, first)
}
