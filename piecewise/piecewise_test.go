package piecewise_test

import (
	"fmt"
	"math"
	"slices"
	"strconv"
	"strings"
	"testing"

	"cohousing/api"
	"cohousing/piecewise"
	"cohousing/rational"
)

const most = api.MaxPieces

// fn makes pieces from a text like "0 1/2 -3, 10 0 0", with From, Value and Slope of each one.
func fn(text string) []api.Piece {
	var f []api.Piece
	for piece := range strings.SplitSeq(text, ",") {
		words := strings.Fields(piece)
		from, bad := strconv.Atoi(words[0])
		if bad != nil {
			panic(text)
		}
		f = append(f, api.Piece{From: from, Value: num(words[1]), Slope: num(words[2])})
	}
	return f
}

// num is the number with a text.
func num(text string) api.Rat {
	r, e := rational.Parse(text)
	if e != api.OK {
		panic(text)
	}
	return r
}

// teeth has n pieces with a value and a slope, which begin at 0, at from, and then each one so many integers behind the one before; every second one is 1 greater.
func teeth(n, from, step int, value, slope string) []api.Piece {
	f := fn("0 " + value + " " + slope)
	for i := 1; i < n; i++ {
		p := api.Piece{From: from + (i-1)*step, Value: f[0].Value, Slope: f[0].Slope}
		if i%2 == 1 {
			p.Value.N += p.Value.D
		}
		f = append(f, p)
	}
	return f
}

// cut has n pieces that begin at 0, at from, and then each one so many integers behind the one before, all of them of one line with whole numbers.
func cut(n, from, step, value, slope int) []api.Piece {
	f := []api.Piece{{Value: api.Rat{N: value, D: 1}, Slope: api.Rat{N: slope, D: 1}}}
	for i := 1; i < n; i++ {
		at := from + (i-1)*step
		f = append(f, api.Piece{From: at, Value: api.Rat{N: value + at*slope, D: 1}, Slope: f[0].Slope})
	}
	return f
}

// with returns a function with another piece at an index.
func with(f []api.Piece, i int, p api.Piece) []api.Piece {
	g := slices.Clone(f)
	g[i] = p
	return g
}

// show has the first pieces of a list, and how many there are.
func show(f []api.Piece) string { return fmt.Sprint(len(f), " ", f[:min(len(f), 6)]) }

// functions are valid, most of them at some limit.
func functions() [][]api.Piece {
	return [][]api.Piece{
		fn("0 0 0"), fn("0 0 2"), fn("0 9 0, 10 0 0"), fn("0 -1/2 1/3"), fn("0 5 -1"), fn("0 7 0, 1 7 0, 2 7 0"), fn("0 0 1, 50 50 1, 60 59 1"),
		fn("0 1000000000 0"), fn("0 -1000000000 0"), fn("0 999999999/100 1/100"), fn("0 -1000000000/99 -99999/100"), fn("0 1/100 1/99"), fn("0 1/97 100000/97"), fn("0 99/100 -100000/99"),
		fn("0 0 100000"), fn("0 0 -100000"), fn("0 1000000000 100000"), fn("0 -1000000000 -100000"), fn("0 1000000000 -100000"), fn("0 -1000000000 100000"),
		fn("0 0 1, 100000 0 1"), fn("0 0 1, 100000 100000 1"), fn("0 1 0, 99999 2 0, 100000 3 0"), fn("0 0 100000, 99999 1000000000 100000, 100000 -1000000000 -100000"),
		teeth(most, 1, 1, "0", "0"), teeth(most, 10, 20, "1/2", "-1/2"), teeth(most, 100000-62, 1, "3", "2"), teeth(most-1, 5, 1587, "-1/3", "1/7"), cut(most, 1, 1, 3, -2), cut(most, 100000-62, 1, 0, 1), cut(2, 100000, 1, 0, 0),
	}
}

// noNumbers are neither values nor slopes of a valid function.
func noNumbers() []api.Rat {
	return []api.Rat{
		{}, {N: 1}, {N: 0, D: 2}, {N: 0, D: -1}, {N: 2, D: 4}, {N: 10, D: 100}, {N: -6, D: 3}, {N: 1, D: -2}, {N: -1, D: -2}, {N: 5, D: 0},
		{N: 1, D: 101}, {N: -1, D: 101}, {N: 1, D: 103}, {N: 1, D: api.MaxRat}, {N: 100, D: 101}, {N: 1, D: api.MaxRat + 1}, {N: 1, D: math.MaxInt}, {N: 1, D: math.MinInt}, {N: 1, D: 1 << 32},
		{N: api.MaxRat + 1, D: 1}, {N: -api.MaxRat - 1, D: 1}, {N: api.MaxRat + 1, D: 99}, {N: 1 << 32, D: 1}, {N: math.MaxInt, D: 1}, {N: math.MinInt, D: 1}, {N: math.MinInt, D: math.MinInt}, {N: math.MaxInt, D: math.MaxInt}, {N: math.MinInt, D: 0},
	}
}

// noSlopes are values of a valid function, but no slopes.
func noSlopes() []api.Rat {
	return []api.Rat{
		{N: api.MaxSlope + 1, D: 1}, {N: -api.MaxSlope - 1, D: 1}, {N: api.MaxSlope + 1, D: 100}, {N: -api.MaxSlope - 1, D: 98}, {N: 2*api.MaxSlope + 1, D: 2}, {N: api.MaxRat, D: 1}, {N: -api.MaxRat, D: 1}, {N: api.MaxRat, D: 99},
	}
}

// noFunctions are lists that are not valid.
func noFunctions() [][]api.Piece {
	all := [][]api.Piece{
		// There are no pieces, or too many.
		nil, {}, teeth(most+1, 1, 1, "0", "0"), cut(most+1, 1, 1, 0, 0), cut(most+1, 10, 1000, 5, 1), teeth(1000, 1, 1, "0", "0"), slices.Repeat(fn("0 0 0"), most+1),
		// They begin too late, too early, at the same integer, not in order, or beyond the last integer.
		fn("1 0 0"), fn("-1 0 0"), fn("100000 0 0"), fn("1 0 0, 2 0 0"), fn("-1 0 0, 0 0 0"), fn("0 0 0, 0 0 0"), fn("0 0 0, 5 1 0, 5 1 0"), fn("0 0 0, 0 0 0, 5 1 0"), fn("0 0 0, 5 1 0, 4 1 0"), fn("5 0 0, 0 0 0"), fn("0 0 0, 7 0 0, 0 0 0"), fn("0 0 0, -1 0 0"), fn("0 0 0, 9 1 0, 5 1 0, 10 0 0"),
		fn("0 0 0, 100001 0 0"), fn("100001 0 0"), fn("0 0 0, 100000 0 0, 100001 0 0"), fn("0 0 0, 4294967296 0 0"), fn("0 0 0, 9223372036854775807 0 0"), fn("-9223372036854775808 0 0"), fn("9223372036854775807 0 0"), fn("0 0 0, -9223372036854775808 0 0"), fn("-9223372036854775808 0 0, 9223372036854775807 0 0"),
		with(teeth(most, 1, 1, "0", "0"), 63, api.Piece{From: 62, Value: num("0"), Slope: num("0")}), with(teeth(most, 1, 1, "0", "0"), 63, api.Piece{From: api.MaxX + 1, Value: num("0"), Slope: num("0")}), {{}},
	}
	for _, r := range noNumbers() {
		all = append(all, []api.Piece{{Value: r, Slope: num("0")}}, append(fn("0 1 1"), api.Piece{From: 5, Value: r, Slope: num("1")}), with(teeth(most, 1, 1, "0", "0"), 40, api.Piece{From: 40, Value: r, Slope: num("0")}))
	}
	for _, r := range append(noNumbers(), noSlopes()...) {
		all = append(all, []api.Piece{{Value: num("0"), Slope: r}}, append(fn("0 1 1"), api.Piece{From: api.MaxX, Value: num("1"), Slope: r}), with(teeth(most, 1, 1, "0", "0"), 63, api.Piece{From: 63, Value: num("0"), Slope: r}))
	}
	return all
}

// beyond are integers that functions are not about.
func beyond() []int {
	return []int{-1, -2, -100000, 100001, 100002, 200000, 1 << 32, 1<<32 + 5, -1 << 32, 5 - 1<<32, math.MaxInt, math.MaxInt - 1, math.MinInt, math.MinInt + 1}
}

// P5.1, E1.
func TestValid(t *testing.T) {
	for _, f := range functions() {
		if !piecewise.Valid(f) {
			t.Errorf("Valid(%s): false", show(f))
		}
	}
	for _, f := range noFunctions() {
		if piecewise.Valid(f) {
			t.Errorf("Valid(%s): true", show(f))
		}
	}
}

// P5.1, E1: each number that may be a value or a slope, for numerators and denominators around the limits.
func TestValidNumbers(t *testing.T) {
	var numerators, denominators []int
	for _, n := range []int{0, api.MaxSlope, api.MaxRat, api.MaxRat / 100} {
		for by := -3; by <= 3; by++ {
			numerators = append(numerators, n+by, -n+by)
		}
	}
	for d := -2; d <= 110; d++ {
		denominators = append(denominators, d)
	}
	zero := num("0")
	for _, n := range numerators {
		for _, d := range append(denominators, 1000, api.MaxRat, -100) {
			r := api.Rat{N: n, D: d}
			isValue := rational.Valid(r) && d <= 100
			isSlope := isValue && max(n, -n) <= 100000
			if got := piecewise.Valid([]api.Piece{{Value: r, Slope: zero}}); got != isValue {
				t.Errorf("value %v: %v", r, got)
			}
			if got := piecewise.Valid([]api.Piece{{Value: zero, Slope: r}}); got != isSlope {
				t.Errorf("slope %v: %v", r, got)
			}
		}
	}
}

// P5.1, E2.
func TestAt(t *testing.T) {
	for _, x := range []struct {
		f    string
		at   int
		want string
	}{
		{"0 0 2", 7, "14"},
		{"0 0 2", 0, "0"},
		{"0 0 2", 100000, "200000"},
		{"0 5 0", 0, "5"},
		{"0 5 0", 100000, "5"},
		{"0 -3/4 1/2", 0, "-3/4"},
		{"0 -3/4 1/2", 1, "-1/4"},
		{"0 -3/4 1/2", 2, "1/4"},
		{"0 1/3 -1/3", 1, "0"},
		{"0 1/3 -1/3", 2, "-1/3"},
		// The last piece that begins at or before the integer, and the distance from its beginning.
		{"0 9 0, 10 0 0", 9, "9"},
		{"0 9 0, 10 0 0", 10, "0"},
		{"0 9 0, 10 0 0", 11, "0"},
		{"0 9 1, 10 5 -2, 20 7 3", 0, "9"},
		{"0 9 1, 10 5 -2, 20 7 3", 9, "18"},
		{"0 9 1, 10 5 -2, 20 7 3", 10, "5"},
		{"0 9 1, 10 5 -2, 20 7 3", 19, "-13"},
		{"0 9 1, 10 5 -2, 20 7 3", 20, "7"},
		{"0 9 1, 10 5 -2, 20 7 3", 21, "10"},
		{"0 9 1, 10 5 -2, 20 7 3", 100000, "299947"},
		{"0 0 1, 100000 -5 7", 99999, "99999"},
		{"0 0 1, 100000 -5 7", 100000, "-5"},
		{"0 4 0, 99999 3 1/2, 100000 2 1", 99999, "3"},
		{"0 1 0, 1 2 0, 2 3 0", 0, "1"},
		{"0 1 0, 1 2 0, 2 3 0", 1, "2"},
		{"0 1 0, 1 2 0, 2 3 0", 2, "3"},
		// Denominators that no value of a piece has.
		{"0 1/100 1/3", 1, "103/300"},
		{"0 1/100 1/99", 1, "199/9900"},
		{"0 1/100 1/99", 100000, "10000099/9900"},
		{"0 1/97 -1/96", 5, "-389/9312"},
		// As far as numbers go, also where the distance times the slope is none.
		{"0 0 100000", 10000, "1000000000"},
		{"0 0 -100000", 10000, "-1000000000"},
		{"0 -1000000000 100000", 20000, "1000000000"},
		{"0 1000000000 -100000", 20000, "-1000000000"},
		{"0 -1000000000 100000", 19999, "999900000"},
		{"0 999999999/100 1/100", 1, "10000000"},
		{"0 0 99999/100", 100000, "99999000"},
		{"0 0 100000, 10000 1000000000 0", 9999, "999900000"},
		{"0 0 100000, 100000 3 100000", 100000, "3"},
	} {
		if got, e := piecewise.At(fn(x.f), x.at); got != num(x.want) || e != api.OK {
			t.Errorf("At(%s, %d): %v, %v; want %s", x.f, x.at, got, e, x.want)
		}
	}
}

// P5.1, E2: values that are no numbers, which come after arguments that are not valid.
func TestAtErrors(t *testing.T) {
	for _, x := range []struct {
		f  string
		at int
	}{
		{"0 0 100000", 10001},
		{"0 0 100000", 100000},
		{"0 0 -100000", 10001},
		{"0 0 -100000", 100000},
		{"0 1000000000 1", 1},
		{"0 -1000000000 -1", 1},
		{"0 1000000000 100000", 100000},
		{"0 -1000000000 100000", 20001},
		{"0 1000000000 -100000", 20001},
		{"0 1000000000/99 1/100", 1},
		{"0 999999999/100 1/99", 1},
		{"0 1000000000 1/100", 1},
		{"0 0 0, 5 1000000000 1/2", 6},
	} {
		if got, e := piecewise.At(fn(x.f), x.at); got != (api.Rat{}) || e != api.ErrRange {
			t.Errorf("At(%s, %d): %v, %v", x.f, x.at, got, e)
		}
	}
	check := func(f []api.Piece, x int) {
		t.Helper()
		if got, e := piecewise.At(f, x); got != (api.Rat{}) || e != api.ErrArg {
			t.Errorf("At(%s, %d): %v, %v", show(f), x, got, e)
		}
	}
	for _, f := range functions() {
		for _, x := range beyond() {
			check(f, x)
		}
	}
	for _, f := range noFunctions() {
		for _, x := range append(beyond(), 0, 1, 5, 99999, 100000) {
			check(f, x)
		}
	}
	// A piece that is not valid, far from the integer.
	check(append(fn("0 1000000000 100000"), api.Piece{From: 90000, Value: num("1/101"), Slope: num("0")}), 5)
}

// P5.1, E6.
func TestBelow(t *testing.T) {
	for _, x := range []struct {
		f, g     string
		lo, hi   int
		want     int
		isAtSome bool
	}{
		{"0 9 0, 10 0 0", "0 0 2", 0, 20, 5, true},
		{"0 0 2", "0 9 0, 10 0 0", 5, 20, 0, false},
		{"0 0 2", "0 9 0, 10 0 0", 0, 20, 0, true},
		{"0 0 2", "0 9 0, 10 0 0", 4, 20, 4, true},
		{"0 0 2", "0 9 0, 10 0 0", 4, 4, 4, true},
		{"0 0 2", "0 9 0, 10 0 0", 5, 5, 0, false},
		// Lines that cross at an integer, and between two.
		{"0 10 0", "0 0 2", 0, 100000, 6, true},
		{"0 10 0", "0 0 2", 5, 5, 0, false},
		{"0 10 0", "0 0 2", 0, 5, 0, false},
		{"0 10 0", "0 0 2", 6, 6, 6, true},
		{"0 10 0", "0 0 2", 0, 6, 6, true},
		{"0 10 0", "0 0 2", 50, 60, 50, true},
		{"0 21/2 0", "0 0 2", 0, 100000, 6, true},
		{"0 21/2 0", "0 0 2", 5, 5, 0, false},
		{"0 0 2", "0 10 0", 0, 100000, 0, true},
		{"0 0 2", "0 10 0", 4, 9, 4, true},
		{"0 0 2", "0 10 0", 5, 9, 0, false},
		{"0 0 2", "0 10 0", 5, 100000, 0, false},
		{"0 50000 0", "0 0 1/2", 0, 100000, 0, false},
		{"0 49999 0", "0 0 1/2", 0, 100000, 99999, true},
		{"0 99999/2 0", "0 0 1/2", 0, 100000, 100000, true},
		{"0 99999/2 0", "0 0 1/2", 0, 99999, 0, false},
		// Where a piece begins, and where one ends.
		{"0 5 0, 10 4 0", "0 5 0", 0, 100000, 10, true},
		{"0 5 0, 10 4 0", "0 5 0", 0, 9, 0, false},
		{"0 5 0, 10 4 0", "0 5 0", 0, 10, 10, true},
		{"0 5 0", "0 5 0, 10 6 0", 3, 50, 10, true},
		{"0 5 0, 10 4 0, 20 5 0", "0 5 0", 15, 30, 15, true},
		{"0 5 0, 10 4 0, 20 5 0", "0 5 0", 19, 30, 19, true},
		{"0 5 0, 10 4 0, 20 5 0", "0 5 0", 20, 30, 0, false},
		{"0 0 1, 10 0 1, 20 0 1", "0 15 0", 12, 15, 12, true},
		{"0 5 1, 10 5 1, 20 5 -1, 30 5 0", "0 5 0", 0, 100000, 21, true},
		{"0 5 1, 10 5 1, 20 5 -1, 30 5 0", "0 5 0", 0, 20, 0, false},
		{"0 5 1, 10 5 -1, 20 5 1", "0 5 0", 20, 100000, 0, false},
		{"0 0 1", "0 0 1, 100000 100001 0", 0, 100000, 100000, true},
		{"0 0 1", "0 0 1, 100000 100001 0", 0, 99999, 0, false},
		{"0 0 1", "0 0 1, 100000 100001 0", 100000, 100000, 100000, true},
		{"0 0 1, 100000 -1 0", "0 0 0", 0, 100000, 100000, true},
		{"0 1 0, 1 0 0", "0 0 0, 1 1 0", 0, 1, 1, true},
		{"0 0 0, 1 1 0", "0 1 0, 1 0 0", 0, 1, 0, true},
		{"0 0 0, 1 1 0", "0 1 0, 1 0 0", 1, 1, 0, false},
		// Lines that are nearly the same, or that are the same.
		{"0 1/100 1/100", "0 1/100 1/99", 0, 100000, 1, true},
		{"0 1/100 1/100", "0 1/100 1/99", 0, 0, 0, false},
		{"0 1/99 1/100", "0 1/100 1/99", 0, 100000, 2, true},
		{"0 1 99/100", "0 0 100/99", 0, 100000, 50, true},
		{"0 1/2 1/3", "0 1/2 1/3", 0, 100000, 0, false},
		{"0 0 1, 50 50 1", "0 0 1", 0, 100000, 0, false},
		// Values that are no numbers.
		{"0 0 99999", "0 0 100000", 0, 100000, 1, true},
		{"0 0 99999", "0 0 100000", 50000, 100000, 50000, true},
		{"0 1000000000 -100000", "0 -1000000000 100000", 0, 100000, 10001, true},
		{"0 1000000000 100000", "0 1000000000 100000", 0, 100000, 0, false},
		{"0 -1000000000 -100000", "0 1000000000 100000", 100000, 100000, 100000, true},
		{"0 1000000000 99999", "0 0 100000", 0, 100000, 0, false},
		{"0 0 99999, 90000 1000000000 99999", "0 0 100000, 90000 1000000000 100000", 90000, 90000, 0, false},
	} {
		got, is, e := piecewise.Below(fn(x.f), fn(x.g), api.Range{Lo: x.lo, Hi: x.hi})
		if got != x.want || is != x.isAtSome || e != api.OK {
			t.Errorf("Below(%s, %s, %d to %d): %d, %v, %v; want %d, %v", x.f, x.g, x.lo, x.hi, got, is, e, x.want, x.isAtSome)
		}
	}
}

// P5.1, E6: functions and ranges that are not valid.
func TestBelowArguments(t *testing.T) {
	check := func(f, g []api.Piece, lo, hi int) {
		t.Helper()
		if x, is, e := piecewise.Below(f, g, api.Range{Lo: lo, Hi: hi}); x != 0 || is || e != api.ErrArg {
			t.Errorf("Below(%s, %s, %d to %d): %d, %v, %v", show(f), show(g), lo, hi, x, is, e)
		}
	}
	f, g := fn("0 0 0"), fn("0 1 0")
	for _, x := range beyond() {
		for _, y := range append(beyond(), 0, 1, 99999, 100000) {
			check(f, g, x, y)
			check(g, f, y, x)
		}
	}
	for _, r := range [][2]int{{1, 0}, {100000, 0}, {100000, 99999}, {5, 4}} {
		check(f, g, r[0], r[1])
		check(g, f, r[0], r[1])
	}
	for _, bad := range noFunctions() {
		for _, r := range [][2]int{{0, 0}, {0, 100000}, {5, 4}, {-1, 5}} {
			check(bad, g, r[0], r[1])
			check(f, bad, r[0], r[1])
			check(bad, bad, r[0], r[1])
		}
	}
}
