package piecewise_test

import (
	"slices"
	"testing"

	"cohousing/api"
	"cohousing/piecewise"
	"cohousing/rational"
)

// check reports a call that has not returned what it should have.
func check(t *testing.T, got []api.Piece, e api.Errno, want []api.Piece, f api.Errno, name string, arguments ...[]api.Piece) {
	t.Helper()
	if slices.Equal(got, want) && e == f {
		return
	}
	for _, a := range arguments {
		name += " " + show(a)
	}
	t.Errorf("%s: %s, %v; want %s, %v", name, show(got), e, show(want), f)
}

// wantedPieces are the pieces with a text, or none and ErrRange if it is empty.
func wantedPieces(text string) ([]api.Piece, api.Errno) {
	if text == "" {
		return nil, api.ErrRange
	}
	return fn(text), api.OK
}

// P5.1, E3, and P5.5: in both orders.
func TestAdd(t *testing.T) {
	for _, x := range []struct{ f, g, want string }{
		{"0 0 2", "0 9 0, 10 0 0", "0 9 2, 10 20 2"},
		{"0 0 0", "0 0 0", "0 0 0"},
		{"0 1/2 1/3", "0 1/3 1/2", "0 5/6 5/6"},
		{"0 1/2 1/2", "0 1/2 1/2", "0 1 1"},
		{"0 3 -2", "0 -3 2", "0 0 0"},
		{"0 -1/2 -1/3", "0 -1 0, 4 0 0", "0 -3/2 -1/3, 4 -11/6 -1/3"},
		{"0 1 1, 5 0 0, 9 2 -1", "0 0 3, 5 1 1, 8 0 0", "0 1 4, 5 1 1, 8 0 0, 9 2 -1"},
		{"0 1 1, 5 0 0", "0 0 2, 3 1 1/2", "0 1 3, 3 5 3/2, 5 2 1/2"},
		{"0 0 1, 100000 7 0", "0 0 1", "0 0 2, 100000 100007 1"},
		{"0 0 1, 100000 7 0", "0 0 1, 100000 -7 0", "0 0 2, 100000 0 0"},
		{"0 0 1, 99999 0 0", "0 0 0, 100000 1 0", "0 0 1, 99999 0 0, 100000 1 0"},
		// Pieces that continue the one before, in an argument or in the sum alone.
		{"0 7 0, 1 7 0, 2 7 0", "0 0 1", "0 7 1"},
		{"0 7 0, 1 8 0, 2 7 0", "0 0 1, 1 0 1, 2 2 1", "0 7 1"},
		{"0 0 1, 5 0 3", "0 0 2, 5 15 0", "0 0 3"},
		{"0 0 1, 5 0 3", "0 0 2, 5 15 1", "0 0 3, 5 15 4"},
		{"0 0 1, 5 0 3", "0 0 2, 5 16 0", "0 0 3, 5 16 3"},
		{"0 0 1, 5 5 1, 9 9 1, 10 0 0", "0 0 0", "0 0 1, 10 0 0"},
		{"0 0 1, 5 1 1, 9 5 1, 10 0 0", "0 0 0", "0 0 1, 5 1 1, 10 0 0"},
		{"0 0 1, 5 0 1", "0 0 0", "0 0 1, 5 0 1"},
		{"0 0 0, 5 0 1", "0 0 0", "0 0 0, 5 0 1"},
		{"0 0 1/3, 1 1/3 1/3, 3 1 1/3", "0 1/2 -1/3", "0 1/2 0"},
		{"0 0 1, 100000 100000 1", "0 2 0", "0 2 1"},
		// Numbers at their limits; those on the way may be beyond them.
		{"0 500000000 50000", "0 500000000 50000", "0 1000000000 100000"},
		{"0 -500000000 -50000", "0 -500000000 -50000", "0 -1000000000 -100000"},
		{"0 1/25 1/25", "0 1/4 1/4", "0 29/100 29/100"},
		{"0 1/100 1/100", "0 1/100 -1/100", "0 1/50 0"},
		{"0 1000000000/99 100000/99", "0 1/99 1/99", "0 90909091/9 9091/9"},
		{"0 1000000000 100000", "0 0 0, 10000 -1000000000 0", "0 1000000000 100000, 10000 1000000000 100000"},
		{"0 -1000000000 -100000", "0 0 0, 10000 1000000000 0", "0 -1000000000 -100000, 10000 -1000000000 -100000"},
		{"0 1/100 1/3", "0 0 0, 1 -1/100 0", "0 1/100 1/3, 1 1/3 1/3"},
		{"0 900000001/100 100000/99", "0 -900000001/100 -99998/99, 99 5 0", "0 0 2/99, 99 910000501/100 100000/99"},
		// What is left out need not be within the limits.
		{"0 1000000000 1", "0 0 0, 1 0 0", "0 1000000000 1"},
		{"0 -1000000000 -1", "0 0 0, 1 0 0", "0 -1000000000 -1"},
		{"0 1000000000 100000", "0 0 0, 100000 0 0", "0 1000000000 100000"},
		{"0 1/100 1/3", "0 0 0, 1 0 0", "0 1/100 1/3"},
		{"0 1/100 1/3", "0 0 -1, 1 -1 -1, 2 -2 -1, 60 0 0", "0 1/100 -2/3, 60 2001/100 1/3"},
	} {
		f, g, want := fn(x.f), fn(x.g), fn(x.want)
		got, e := piecewise.Add(f, g)
		check(t, got, e, want, api.OK, "Add", f, g)
		got, e = piecewise.Add(g, f)
		check(t, got, e, want, api.OK, "Add", g, f)
	}
}

// P5.1, E3, and section Words: sums with a value or a slope that no valid function has.
func TestAddBeyondNumbers(t *testing.T) {
	for _, x := range [][2]string{
		{"0 1000000000 0", "0 1 0"},
		{"0 -1000000000 0", "0 -1 0"},
		{"0 1000000000 0", "0 1/2 0"},
		{"0 1000000000/97 0", "0 1/97 0"},
		{"0 0 100000", "0 0 1"},
		{"0 0 -100000", "0 0 -1"},
		{"0 0 50000", "0 0 50001"},
		{"0 0 100000", "0 0 1/2"},
		{"0 0 100000/97", "0 0 1/97"},
		{"0 0 1/50", "0 0 1/3"},
		{"0 0 1/100", "0 0 1/99"},
		{"0 1/50 0", "0 1/3 0"},
		{"0 1/100 0", "0 -1/99 0"},
		// Where a further piece begins.
		{"0 0 100000", "0 0 0, 10001 0 -1"},
		{"0 0 100000", "0 0 0, 100000 1 0"},
		{"0 1/100 1/3", "0 0 0, 1 1 0"},
		{"0 1/100 1/3", "0 0 0, 1 0 1"},
		{"0 0 0, 7 1000000000 0", "0 0 0, 7 1 0"},
		{"0 0 0, 99999 0 0, 100000 0 100000", "0 0 0, 100000 0 1"},
		{"0 0 0, 5 1/7 0", "0 0 0, 5 1/17 0, 6 0 0"},
		{"0 1000000000 100000", "0 1000000000 100000"},
		{"0 1000000000 100000", "0 -1000000000 -100000, 20001 -1000000000 0"},
	} {
		f, g := fn(x[0]), fn(x[1])
		got, e := piecewise.Add(f, g)
		check(t, got, e, nil, api.ErrRange, "Add", f, g)
		got, e = piecewise.Add(g, f)
		check(t, got, e, nil, api.ErrRange, "Add", g, f)
	}
}

// P5.1, E4.
func TestScale(t *testing.T) {
	for _, x := range []struct{ f, r, want string }{
		{"0 0 2", "3", "0 0 6"},
		{"0 9 0, 10 0 0", "-1/3", "0 -3 0, 10 0 0"},
		{"0 1/2 -2/3, 7 3 1/6", "6/5", "0 3/5 -4/5, 7 18/5 1/5"},
		{"0 1/2 -2/3, 7 3 1/6", "1", "0 1/2 -2/3, 7 3 1/6"},
		{"0 1/2 -2/3, 7 3 1/6", "-1", "0 -1/2 2/3, 7 -3 -1/6"},
		{"0 0 0", "-7/3", "0 0 0"},
		{"0 0 1, 100000 7 0", "2", "0 0 2, 100000 14 0"},
		// A function times 0 is one piece, whatever there was.
		{"0 1/2 -2/3, 7 3 1/6", "0", "0 0 0"},
		{"0 1000000000 100000, 1 -1000000000 -100000, 100000 1/100 1/99", "0", "0 0 0"},
		// Pieces that continue the one before.
		{"0 7 0, 1 7 0, 2 7 0", "2", "0 14 0"},
		{"0 0 1, 5 5 1, 9 9 1, 10 0 0", "1", "0 0 1, 10 0 0"},
		{"0 0 1, 5 5 1, 9 10 1, 10 11 1, 11 0 1", "-1/7", "0 0 -1/7, 9 -10/7 -1/7, 11 0 -1/7"},
		{"0 0 1/3, 1 1/3 1/3, 3 1 1/3, 4 1 1/3", "3", "0 0 1, 4 3 1"},
		// Numbers at their limits; those that are multiplied may be beyond them.
		{"0 1/100 0", "100000000", "0 1000000 0"},
		{"0 1 0", "1000000000", "0 1000000000 0"},
		{"0 1 0", "-1000000000", "0 -1000000000 0"},
		{"0 1000000000 0", "1/1000000000", "0 1 0"},
		{"0 999999999 0", "1000000000/999999999", "0 1000000000 0"},
		{"0 1000000000 100000", "1/100000", "0 10000 1"},
		{"0 1000000000 100000", "-1", "0 -1000000000 -100000"},
		{"0 500000000 50000", "2", "0 1000000000 100000"},
		{"0 1 1", "1/100", "0 1/100 1/100"},
		{"0 1/10 -1/10", "1/10", "0 1/100 -1/100"},
		{"0 101 202", "1/101", "0 1 2"},
		{"0 0 1", "100000", "0 0 100000"},
		{"0 0 1", "-100000", "0 0 -100000"},
		{"0 0 1/99", "100001", "0 0 9091/9"},
		// What is left out need not be within the limits.
		{"0 0 10, 60000 600000 10", "2000", "0 0 20000"},
		{"0 1/2 1/3, 1 5/6 1/3", "1/33", "0 1/66 1/99"},
	} {
		f := fn(x.f)
		got, e := piecewise.Scale(f, num(x.r))
		check(t, got, e, fn(x.want), api.OK, "Scale by "+x.r, f)
	}
}

// P5.1, E4, and section Words: a multiple with a value or a slope that no valid function has.
func TestScaleBeyondNumbers(t *testing.T) {
	for _, x := range [][2]string{
		{"0 500000001 0", "2"},
		{"0 -500000001 0", "2"},
		{"0 1000000000 0", "1000000000"},
		{"0 1000000000 0", "1000000000/999999999"},
		{"0 0 100000", "1000000000"},
		{"0 0 -50001", "2"},
		{"0 0 1", "100001"},
		{"0 0 1", "-100001"},
		{"0 0 1/2", "100001"},
		{"0 0 1/97", "100001"},
		{"0 0 1", "1000000000"},
		{"0 1 0", "1/101"},
		{"0 0 1", "1/101"},
		{"0 1 1", "1/1000000000"},
		{"0 1/2 0", "1/51"},
		{"0 0 1/100", "1/2"},
		{"0 0 1/100", "1/100"},
		{"0 1/99 0", "1/1000000000"},
		{"0 0 0, 100000 1/100 0", "1/2"},
		{"0 0 0, 100000 0 1/100", "1/2"},
		{"0 0 10, 60000 600001 10", "2000"},
		{"0 0 10, 60000 600000 11", "2000"},
	} {
		f := fn(x[0])
		got, e := piecewise.Scale(f, num(x[1]))
		check(t, got, e, nil, api.ErrRange, "Scale by "+x[1], f)
	}
}

// P5.1, E5: in both orders; where both functions have the same value, the first one is taken.
func TestLeast(t *testing.T) {
	for _, x := range []struct{ f, g, fg, gf string }{
		{"0 0 2", "0 9 0, 10 0 0", "0 0 2, 5 9 0, 10 0 0", "0 0 2, 5 9 0, 10 0 0"},
		{"0 0 0", "0 1 0", "0 0 0", "0 0 0"},
		{"0 -1/2 1/3", "0 0 1/2", "0 -1/2 1/3", "0 -1/2 1/3"},
		// Lines that cross at an integer.
		{"0 0 2", "0 10 0", "0 0 2, 6 10 0", "0 0 2, 5 10 0"},
		{"0 10 -1", "0 5 0", "0 5 0, 5 5 -1", "0 5 0, 6 4 -1"},
		{"0 0 1", "0 0 0", "0 0 1, 1 0 0", "0 0 0"},
		{"0 1 -1", "0 0 0", "0 0 0, 1 0 -1", "0 0 0, 2 -1 -1"},
		{"0 0 1", "0 99999 0", "0 0 1, 100000 99999 0", "0 0 1, 99999 99999 0"},
		{"0 0 1", "0 100000 0", "0 0 1", "0 0 1, 100000 100000 0"},
		{"0 1/2 1/2", "0 2 1/3", "0 1/2 1/2, 10 16/3 1/3", "0 1/2 1/2, 9 5 1/3"},
		// Between two integers.
		{"0 0 2", "0 9 0", "0 0 2, 5 9 0", "0 0 2, 5 9 0"},
		{"0 21/2 -1", "0 5 0", "0 5 0, 6 9/2 -1", "0 5 0, 6 9/2 -1"},
		{"0 0 1", "0 1/2 0", "0 0 1, 1 1/2 0", "0 0 1, 1 1/2 0"},
		{"0 0 1", "0 199999/2 0", "0 0 1, 100000 199999/2 0", "0 0 1, 100000 199999/2 0"},
		{"0 1/100 100000", "0 0 -100000, 1 0 -100000", "0 0 -100000, 1 0 -100000", "0 0 -100000, 1 0 -100000"},
		// Where a piece begins, also at the last integer.
		{"0 0 0, 10 5 0", "0 3 0", "0 0 0, 10 3 0", "0 0 0, 10 3 0"},
		{"0 0 1", "0 10 0, 10 0 1", "0 0 1, 10 0 1", "0 0 1, 10 0 1"},
		{"0 0 2", "0 10 0, 5 10 1", "0 0 2, 6 11 1", "0 0 2, 5 10 1"},
		{"0 0 2, 5 10 1", "0 10 0", "0 0 2, 5 10 1, 6 10 0", "0 0 2, 5 10 0"},
		{"0 0 2, 5 10 0", "0 10 0", "0 0 2, 5 10 0", "0 0 2, 5 10 0"},
		{"0 0 2, 6 8 1", "0 10 0", "0 0 2, 6 8 1, 9 10 0", "0 0 2, 5 10 0, 6 8 1, 8 10 0"},
		{"0 0 1, 100000 7 0", "0 200000 0", "0 0 1, 100000 7 0", "0 0 1, 100000 7 0"},
		{"0 0 1, 100000 7 0", "0 5 0", "0 0 1, 6 5 0", "0 0 1, 5 5 0"},
		{"0 0 0, 100000 7 3", "0 5 0", "0 0 0, 100000 5 0", "0 0 0, 100000 5 0"},
		{"0 0 0, 100000 7 3", "0 5 0, 100000 7 -3", "0 0 0, 100000 7 3", "0 0 0, 100000 7 -3"},
		// Equal functions, and pieces that continue the one before, of one function or of the other.
		{"0 1/2 1/3", "0 1/2 1/3", "0 1/2 1/3", "0 1/2 1/3"},
		{"0 7 0, 1 7 0, 2 7 0", "0 7 0", "0 7 0", "0 7 0"},
		{"0 0 1", "0 0 1, 50 50 1, 60 59 1", "0 0 1, 60 59 1", "0 0 1, 60 59 1"},
		{"0 0 1, 50 100 1", "0 5 1, 50 50 1", "0 0 1", "0 0 1"},
		{"0 0 1, 50 100 1", "0 5 1, 50 49 1", "0 0 1, 50 49 1", "0 0 1, 50 49 1"},
		{"0 0 0", "0 0 0, 5 0 1, 7 0 -1", "0 0 0, 8 -1 -1", "0 0 0, 5 0 1, 6 0 0, 7 0 -1"},
		{"0 5 0, 3 5 0", "0 9 0, 6 9 0", "0 5 0", "0 5 0"},
		// Several crossings.
		{"0 0 1, 10 0 1, 20 0 1", "0 5 0", "0 0 1, 6 5 0, 10 0 1, 16 5 0, 20 0 1, 26 5 0", "0 0 1, 5 5 0, 10 0 1, 15 5 0, 20 0 1, 25 5 0"},
		// Numbers at their limits; those that are compared may be beyond them.
		{"0 1000000000 -100000", "0 -1000000000 100000", "0 -1000000000 100000, 10000 0 -100000", "0 -1000000000 100000, 10001 -100000 -100000"},
		{"0 0 100000", "0 0 99999", "0 0 100000, 1 99999 99999", "0 0 99999"},
		{"0 0 100000", "0 900000000 10000", "", "0 0 100000, 10000 1000000000 10000"},
		{"0 1000000000 99999", "0 0 100000", "0 0 100000", "0 0 100000"},
		{"0 900000000 100000", "0 1000000000 100000, 5000 1000000000 100000", "0 900000000 100000, 5000 1000000000 100000", "0 900000000 100000, 5000 1000000000 100000"},
		{"0 1/100 1/100", "0 1/99 1/99", "0 1/100 1/100", "0 1/100 1/100"},
		{"0 0 1/99", "0 0 1/100", "0 0 1/99, 1 1/100 1/100", "0 0 1/100"},
		// What is left out need not be within the limits.
		{"0 1/100 1/3", "0 5 1/2, 1 6 1/2", "0 1/100 1/3", "0 1/100 1/3"},
		{"0 1/100 1/3", "0 1 0, 2 0 0", "0 1/100 1/3, 2 0 0", "0 1/100 1/3, 2 0 0"},
		{"0 0 0, 4 5 -1", "0 0 0, 3 -1/99 1/98", "0 0 0, 3 -1/99 1/98, 9 0 -1", "0 0 0, 3 -1/99 1/98, 9 0 -1"},
		{"0 -1000000000 -1", "0 0 0, 7 0 1", "0 -1000000000 -1", "0 -1000000000 -1"},
		// Values that no valid function has, where the other one is taken.
		{"0 0 100000", "0 1000000000 50000", "", ""},
		{"0 0 1", "0 1/100 1/3", "", ""},
		{"0 1/100 1/3", "0 1 0, 2 0 1", "", ""},
		{"0 1/100 1/3", "0 0 0, 1 5 0", "", ""},
	} {
		f, g := fn(x.f), fn(x.g)
		got, e := piecewise.Least(f, g)
		want, d := wantedPieces(x.fg)
		check(t, got, e, want, d, "Least", f, g)
		got, e = piecewise.Least(g, f)
		want, d = wantedPieces(x.gf)
		check(t, got, e, want, d, "Least", g, f)
	}
}

// saw has n pieces, each of them so many integers behind the one before, all with the same value and slope.
func saw(n, step int, value, slope string) []api.Piece {
	var f []api.Piece
	for i := range n {
		f = append(f, api.Piece{From: i * step, Value: num(value), Slope: num(slope)})
	}
	return f
}

// and has further pieces behind those of a function.
func and(f []api.Piece, text string) []api.Piece { return append(slices.Clone(f), fn(text)...) }

// P5.1, E3, and section Words: a sum of 64 pieces, and one of more, which comes after numbers that are not valid.
func TestAddLimit(t *testing.T) {
	full, zero := teeth(most, 1, 1, "0", "0"), fn("0 0 0")
	odd, even := teeth(most, 1, 2, "0", "0"), teeth(most, 2, 2, "0", "0")
	for _, x := range []struct {
		f, g []api.Piece
		// n is how many pieces the sum has, without an error.
		n int
		e api.Errno
	}{
		{full, zero, most, api.OK},
		{full, full, most, api.OK},
		{full, cut(most, 1, 1, 3, -2), most, api.OK},
		{full, cut(most, 100, 1000, 3, -2), most, api.OK},
		{cut(most, 1, 2, 3, -2), cut(most, 2, 2, 1, 5), 1, api.OK},
		{odd[:32], even[:33], most, api.OK},
		{odd[:33], even[:32], most, api.OK},
		{odd[:33], even[:33], 0, api.ErrLimit},
		{odd, even, 0, api.ErrLimit},
		{odd, and(even[:1], "127 1 0"), 0, api.ErrLimit},
		{full, fn("0 0 0, 64 1 0"), 0, api.ErrLimit},
		{full, fn("0 0 0, 100000 0 1"), 0, api.ErrLimit},
		{full, fn("0 0 0, 100000 0 0"), most, api.OK},
		// The last piece continues the one before if it is 1 less.
		{full, fn("0 0 0, 63 -1 0"), most - 1, api.OK},
		{full, fn("0 0 0, 63 -1 0, 64 5 0"), most, api.OK},
		{full, fn("0 0 0, 63 -1 0, 64 -1 0, 65 5 0"), most, api.OK},
		{full, fn("0 0 0, 63 -1 0, 64 5 0, 65 4 0"), 0, api.ErrLimit},
		// Numbers that are not valid, among the first 64 pieces or behind them.
		{full, fn("0 1000000000 0"), 0, api.ErrRange},
		{odd, with(even, 5, api.Piece{From: 10, Value: num("1000000000"), Slope: num("0")}), 0, api.ErrRange},
		{and(odd[:63], "200 1/7 0"), and(even[:63], "200 1/17 0"), 0, api.ErrRange},
		{and(odd[:63], "200 0 1/7"), and(even[:63], "200 0 1/17"), 0, api.ErrRange},
		{and(odd[:63], "200 0 1/7"), and(even[:63], "200 0 1/14"), 0, api.ErrLimit},
		// At 201 the sum has the denominator 300, but continues the piece before.
		{and(odd[:63], "200 1/100 1/3"), and(even[:62], "200 0 0, 201 0 0"), 0, api.ErrLimit},
		{and(odd[:31], "200 1/100 1/3"), and(even[:33], "200 0 0, 201 0 0"), most, api.OK},
		{and(odd[:63], "200 1/100 1/3"), and(even[:62], "200 0 0, 201 0 1"), 0, api.ErrRange},
	} {
		checkNumber(t, "Add", piecewise.Add, wantedSum, x.f, x.g, x.n, x.e)
		checkNumber(t, "Add", piecewise.Add, wantedSum, x.g, x.f, x.n, x.e)
	}
}

// P5.1, E5, and section Words: a least function of 64 pieces, and one of more, which comes after numbers that are not valid.
func TestLeastLimit(t *testing.T) {
	full, half := teeth(most, 1, 1, "0", "0"), fn("0 1/2 0")
	for _, x := range []struct {
		f, g []api.Piece
		n    int
		e    api.Errno
	}{
		{full, half, most, api.OK},
		{full, fn("0 2 0"), most, api.OK},
		{full, fn("0 -1 0"), 1, api.OK},
		{full, full, most, api.OK},
		{full, teeth(most, 1, 1, "1", "0"), most, api.OK},
		{full, cut(most, 70, 5, 9, 1), most, api.OK},
		{saw(most, 5, "3", "-1"), saw(most, 5, "4", "-1"), most, api.OK},
		// Each piece of one function crosses the other one.
		{saw(32, 10, "0", "1"), fn("0 5 0"), most, api.OK},
		{saw(32, 10, "9", "-1"), fn("0 5 0"), most, api.OK},
		{saw(33, 10, "0", "1"), fn("0 5 0"), 0, api.ErrLimit},
		{saw(32, 10, "0", "1"), fn("0 5 0, 319 4 0"), 0, api.ErrLimit},
		{saw(32, 10, "0", "1"), fn("0 5 0, 319 5 0"), most, api.OK},
		{saw(most, 10, "0", "1"), fn("0 11/2 0"), 0, api.ErrLimit},
		{saw(most, 1587, "-7", "1/9"), saw(most, 1500, "0", "0"), 0, api.ErrLimit},
		{saw(most, 2, "0", "1"), and(fn("0 1/2 0"), "1 1/2 0, 3 1/2 0, 5 1/2 0, 7 1/2 0"), 0, api.ErrLimit},
		// Numbers that are not valid, among the first 64 pieces or behind them.
		{saw(most, 10, "0", "1"), fn("0 53/100 1/3"), 0, api.ErrRange},
		{and(saw(most-1, 10, "0", "1"), "70000 0 100000"), fn("0 5 0, 70000 1/100 1/3"), 0, api.ErrRange},
		{and(saw(most-1, 10, "0", "1"), "70000 0 100000"), fn("0 5 0, 70000 1/100 1/2"), 0, api.ErrLimit},
		// At 70001 the value has the denominator 300, but continues the piece before.
		{and(saw(most-1, 10, "0", "1"), "70000 1/100 1/3"), fn("0 5 0, 70000 9 1, 70001 9 1"), 0, api.ErrLimit},
		{and(saw(31, 10, "0", "1"), "70000 1/100 1/3"), fn("0 5 0, 70000 9 1, 70001 9 1"), most - 1, api.OK},
	} {
		checkNumber(t, "Least", piecewise.Least, wantedLeast, x.f, x.g, x.n, x.e)
		checkNumber(t, "Least", piecewise.Least, wantedLeast, x.g, x.f, x.n, x.e)
	}
}

// operation is Add or Least, or what they should return.
type operation func(f, g []api.Piece) ([]api.Piece, api.Errno)

// checkNumber checks how many pieces a call returns, which ones, and its error.
func checkNumber(t *testing.T, name string, call, wanted operation, f, g []api.Piece, n int, e api.Errno) {
	t.Helper()
	got, d := call(f, g)
	want, _ := wanted(f, g)
	if len(got) != n {
		t.Errorf("%s %s %s: %d pieces; want %d", name, show(f), show(g), len(got), n)
	}
	check(t, got, d, want, e, name, f, g)
}

// P5.1, E3 to E5: functions and numbers that are not valid, on either side, before numbers of a result that are not and before a limit.
func TestArguments(t *testing.T) {
	good := append(functions(), saw(most, 10, "1/3", "1/7"))
	for _, bad := range noFunctions() {
		for _, f := range append(good, bad, nil) {
			for name, call := range map[string]operation{"Add": piecewise.Add, "Least": piecewise.Least} {
				got, e := call(f, bad)
				check(t, got, e, nil, api.ErrArg, name, f, bad)
				got, e = call(bad, f)
				check(t, got, e, nil, api.ErrArg, name, bad, f)
			}
		}
		for _, r := range []string{"0", "1", "-1/2", "1000000000", "1/1000000000"} {
			got, e := piecewise.Scale(bad, num(r))
			check(t, got, e, nil, api.ErrArg, "Scale by "+r, bad)
		}
	}
	for _, r := range noNumbers() {
		if rational.Valid(r) {
			continue
		}
		for _, f := range append(good, noFunctions()...) {
			got, e := piecewise.Scale(f, r)
			check(t, got, e, nil, api.ErrArg, "Scale", f)
		}
	}
}
