package piecewise

import (
	"iter"
	"sort"

	"cohousing/api"
)

// stretch has the integers from one to before another one; two functions have one line each there.
type stretch struct {
	from, until int
	left, right line
}

// everywhere has all integers that functions are about.
func everywhere() api.Range { return api.Range{Lo: 0, Hi: api.MaxX} }

// stretches returns, in order, the longest stretches of a range in which no piece of two functions ends.
func stretches(left, right []api.Piece, r api.Range) iter.Seq[stretch] {
	return func(yield func(stretch) bool) {
		for from := r.Lo; from <= r.Hi; {
			i, j := indexAt(left, from), indexAt(right, from)
			until := min(endOf(left, i), endOf(right, j), r.Hi+1)
			if !yield(stretch{from, until, lineOf(left[i]), lineOf(right[j])}) {
				return
			}
			from = until
		}
	}
}

// indexAt returns the index of the piece at an integer.
func indexAt(f []api.Piece, x int) int {
	return sort.Search(len(f), func(i int) bool { return f[i].From > x }) - 1
}

// endOf returns the integer behind the last one of a piece.
func endOf(f []api.Piece, i int) int {
	if i+1 < len(f) {
		return f[i+1].From
	}
	return api.MaxX + 1
}

// isLeftLess reports whether the left line is below the right one.
func (s stretch) isLeftLess(x int) bool { return s.left.at(x).isLess(s.right.at(x)) }

// turn returns the first integer at which isLeftLess is not what it is at the beginning, or the end of the stretch if there is none. The difference of two lines is a line, whose sign cannot turn back, so a binary search finds it.
func (s stretch) turn() int {
	was := s.isLeftLess(s.from)
	return s.from + sort.Search(s.until-s.from, func(i int) bool { return s.isLeftLess(s.from+i) != was })
}
