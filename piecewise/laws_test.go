package piecewise_test

import (
	"math/big"
	"math/rand/v2"
	"slices"
	"testing"

	"cohousing/api"
	"cohousing/piecewise"
	"cohousing/rational"
)

// draft is a piece with numbers of any size.
type draft struct {
	from         int
	value, slope *big.Rat
}

// ratio is a number of any size.
func ratio(r api.Rat) *big.Rat { return big.NewRat(int64(r.N), int64(r.D)) }

// draftOf has the numbers of a piece.
func draftOf(p api.Piece) draft { return draft{p.From, ratio(p.Value), ratio(p.Slope)} }

// at is the value of the line of a draft.
func (d draft) at(x int) *big.Rat {
	rise := new(big.Rat).Mul(d.slope, big.NewRat(int64(x-d.from), 1))
	return rise.Add(rise, d.value)
}

// pieceOf is the piece of a function at an integer.
func pieceOf(f []api.Piece, x int) api.Piece {
	i := len(f) - 1
	for f[i].From > x {
		i--
	}
	return f[i]
}

// valueAt is the value of a function.
func valueAt(f []api.Piece, x int) *big.Rat { return draftOf(pieceOf(f, x)).at(x) }

// small is a number of any size as one with denominators up to 100 and a numerator up to a limit; not every number is one.
func small(r *big.Rat, limit int64) (api.Rat, bool) {
	if !r.Num().IsInt64() || !r.Denom().IsInt64() {
		return api.Rat{}, false
	}
	n, d := r.Num().Int64(), r.Denom().Int64()
	return api.Rat{N: int(n), D: int(d)}, -limit <= n && n <= limit && d <= 100
}

// finished is what a call should return for all the pieces that its list has before it is reduced.
func finished(drafts []draft) ([]api.Piece, api.Errno) {
	var pieces []api.Piece
	for i, d := range drafts {
		if i > 0 && d.slope.Cmp(drafts[i-1].slope) == 0 && d.value.Cmp(drafts[i-1].at(d.from)) == 0 {
			continue
		}
		value, isValue := small(d.value, 1000000000)
		slope, isSlope := small(d.slope, 100000)
		if !isValue || !isSlope {
			return nil, api.ErrRange
		}
		pieces = append(pieces, api.Piece{From: d.from, Value: value, Slope: slope})
	}
	if len(pieces) > 64 {
		return nil, api.ErrLimit
	}
	return pieces, api.OK
}

// begins are the integers at which a piece of f or g begins.
func begins(f, g []api.Piece) []int {
	var all []int
	for _, p := range slices.Concat(f, g) {
		all = append(all, p.From)
	}
	slices.Sort(all)
	return slices.Compact(all)
}

// wantedSum is what Add should return.
func wantedSum(f, g []api.Piece) ([]api.Piece, api.Errno) {
	var drafts []draft
	for _, x := range begins(f, g) {
		slope := new(big.Rat).Add(ratio(pieceOf(f, x).Slope), ratio(pieceOf(g, x).Slope))
		drafts = append(drafts, draft{x, new(big.Rat).Add(valueAt(f, x), valueAt(g, x)), slope})
	}
	return finished(drafts)
}

// wantedMultiple is what Scale should return.
func wantedMultiple(f []api.Piece, r api.Rat) ([]api.Piece, api.Errno) {
	var drafts []draft
	for _, p := range f {
		drafts = append(drafts, draft{p.From, new(big.Rat).Mul(ratio(p.Value), ratio(r)), new(big.Rat).Mul(ratio(p.Slope), ratio(r))})
	}
	return finished(drafts)
}

// lessEverywhere has true for each integer at which f is less than g. It compares ints, because there are many.
func lessEverywhere(f, g []api.Piece) []bool {
	less := make([]bool, api.MaxX+1)
	i, j := 0, 0
	for x := range less {
		if i+1 < len(f) && f[i+1].From == x {
			i++
		}
		if j+1 < len(g) && g[j+1].From == x {
			j++
		}
		p, q := f[i], g[j]
		n := p.Value.N*p.Slope.D + p.Slope.N*(x-p.From)*p.Value.D
		m := q.Value.N*q.Slope.D + q.Slope.N*(x-q.From)*q.Value.D
		less[x] = n*q.Value.D*q.Slope.D < m*p.Value.D*p.Slope.D
	}
	return less
}

// wantedLeast is what Least should return.
func wantedLeast(f, g []api.Piece) ([]api.Piece, api.Errno) {
	var drafts []draft
	isG := lessEverywhere(g, f)
	starts := begins(f, g)
	for x := range isG {
		_, isStart := slices.BinarySearch(starts, x)
		if !isStart && isG[x] == isG[x-1] {
			continue
		}
		taken := f
		if isG[x] {
			taken = g
		}
		drafts = append(drafts, draft{x, valueAt(taken, x), ratio(pieceOf(taken, x).Slope)})
	}
	return finished(drafts)
}

// dice are the same numbers in each run.
func dice() *rand.Rand { return rand.New(rand.NewPCG(5, 5)) }

// shape says how functions are made: with how many pieces at most, up to which integer, value and slope, with which denominators, and how many of ten pieces continue the one before where they can.
type shape struct {
	pieces, last, value, slope int
	denominators               []int
	continued                  int
}

// shapes are of functions that have sums, of some that cross often, and of some with numbers and pieces up to the limits.
func shapes() []shape {
	all := make([]int, 100)
	for i := range all {
		all[i] = i + 1
	}
	return []shape{
		{1, 0, 10, 3, []int{1}, 0},
		{1, 0, 100000, 10, []int{1, 2, 3}, 0},
		{3, 10, 5, 2, []int{1}, 3},
		{5, 30, 9, 2, []int{1, 2}, 3},
		{12, 200, 40, 3, []int{1, 2, 5, 10}, 4},
		{40, 1000, 100, 9, []int{1}, 5},
		{64, 1000, 100, 9, []int{1}, 2},
		{64, 1000, 10000, 9, []int{1, 4, 25}, 8},
		{33, 100000, 100000, 5, []int{1}, 3},
		{64, 100000, 1000000000, 100000, []int{1}, 9},
		{8, 100000, 1000000000, 100000, []int{1, 50, 100}, 5},
		{3, 100000, 1000000, 100, all, 5},
		{64, 100000, 1000000000, 100000, all, 9},
		{64, 63, 1, 0, []int{1}, 0},
		{4, 20000, 1000000000, 100000, []int{1}, 0},
	}
}

// number is a number of a shape.
func (s shape) number(r *rand.Rand, limit int) api.Rat {
	n, e := rational.Make(r.IntN(2*limit+1)-limit, s.denominators[r.IntN(len(s.denominators))])
	if e != api.OK {
		panic(e)
	}
	return n
}

// function makes a function of a shape; every second one has as many pieces as possible, unless they begin at the same integers.
func (s shape) function(r *rand.Rand) []api.Piece {
	f := []api.Piece{{Value: s.number(r, s.value), Slope: s.number(r, s.slope)}}
	var starts []int
	n := s.pieces - 1
	if r.IntN(2) == 0 {
		n = r.IntN(s.pieces)
	}
	for range n {
		starts = append(starts, 1+r.IntN(s.last))
	}
	slices.Sort(starts)
	for _, x := range slices.Compact(starts) {
		p := api.Piece{From: x, Value: s.number(r, s.value), Slope: s.number(r, s.slope)}
		before := f[len(f)-1]
		if value, is := small(draftOf(before).at(x), 1000000000); is && r.IntN(10) < s.continued {
			p.Value = value
			if r.IntN(3) > 0 {
				p.Slope = before.Slope
			}
		}
		f = append(f, p)
	}
	return f
}

// pairs calls a function with two functions of each shape, so many times.
func pairs(n int, call func(r *rand.Rand, f, g []api.Piece)) {
	r := dice()
	for _, s := range shapes() {
		for range n {
			call(r, s.function(r), s.function(r))
		}
	}
}

// seen counts how often a call returned what.
type seen map[string]map[api.Errno]int

func (s seen) add(name string, e api.Errno) {
	if s[name] == nil {
		s[name] = map[api.Errno]int{}
	}
	s[name][e]++
}

// P5.1: each result, compared with one that is computed with numbers of any size, and with each integer for itself.
func TestResults(t *testing.T) {
	numbers := []string{"0", "1", "-1", "2", "-3/7", "1/2", "1/10", "99/100", "1000000000", "1/1000000000", "-1000000000/999999999", "1/101", "101", "-50", "7/6"}
	calls := seen{}
	pairs(40, func(r *rand.Rand, f, g []api.Piece) {
		if !piecewise.Valid(f) || !piecewise.Valid(g) {
			t.Fatalf("not valid: %s or %s", show(f), show(g))
		}
		got, e := piecewise.Add(f, g)
		want, d := wantedSum(f, g)
		check(t, got, e, want, d, "Add", f, g)
		calls.add("Add", e)
		got, e = piecewise.Least(f, g)
		want, d = wantedLeast(f, g)
		check(t, got, e, want, d, "Least", f, g)
		calls.add("Least", e)
		for _, text := range numbers {
			got, e = piecewise.Scale(f, num(text))
			want, d = wantedMultiple(f, num(text))
			check(t, got, e, want, d, "Scale by "+text, f)
			calls.add("Scale", e)
		}
	})
	// The comparison tells nothing of what does not happen.
	for name, errors := range map[string][]api.Errno{"Add": {api.OK, api.ErrRange, api.ErrLimit}, "Least": {api.OK, api.ErrRange, api.ErrLimit}, "Scale": {api.OK, api.ErrRange}} {
		for _, e := range errors {
			if calls[name][e] < 10 {
				t.Errorf("%s: %v", name, calls[name])
			}
		}
	}
}

// points are the integers around those at which a piece of f or g begins, those around some others, and some more.
func points(r *rand.Rand, f, g []api.Piece, others ...int) []int {
	all := []int{0, 1, 99999, 100000, r.IntN(100001), r.IntN(100001), r.IntN(1000), r.IntN(100)}
	for _, x := range append(begins(f, g), others...) {
		all = append(all, max(0, x-1), x, min(x+1, 100000))
	}
	return all
}

// P5.1, E2: the value at the integers where pieces begin, at those before and behind, at the first ones and the last ones.
func TestValues(t *testing.T) {
	calls := seen{}
	pairs(40, func(r *rand.Rand, f, g []api.Piece) {
		for _, x := range points(r, f, nil) {
			want := valueAt(f, x)
			wanted, d := api.Rat{}, api.ErrRange
			if n := want.Num(); n.CmpAbs(big.NewInt(1000000000)) <= 0 {
				wanted, d = api.Rat{N: int(n.Int64()), D: int(want.Denom().Int64())}, api.OK
			}
			got, e := piecewise.At(f, x)
			if got != wanted || e != d {
				t.Fatalf("At(%s, %d): %v, %v; want %v, %v", show(f), x, got, e, wanted, d)
			}
			calls.add("At", e)
		}
	})
	if calls["At"][api.OK] < 1000 || calls["At"][api.ErrRange] < 1000 {
		t.Error(calls)
	}
}

// P5.2 and P5.5: the values of a sum, in both orders; and P5.6.
func TestSums(t *testing.T) {
	n := 0
	pairs(40, func(r *rand.Rand, f, g []api.Piece) {
		fg, e := piecewise.Add(f, g)
		gf, d := piecewise.Add(g, f)
		if e != d || !slices.Equal(fg, gf) {
			t.Fatalf("%s + %s: %s, %v, and %s, %v", show(f), show(g), show(fg), e, show(gf), d)
		}
		if e != api.OK {
			return
		}
		n++
		checkReduced(t, fg)
		for _, x := range points(r, f, g) {
			if sum := new(big.Rat).Add(valueAt(f, x), valueAt(g, x)); valueAt(fg, x).Cmp(sum) != 0 {
				t.Fatalf("%s + %s at %d: %v, not %v", show(f), show(g), x, valueAt(fg, x), sum)
			}
		}
	})
	if n < 100 {
		t.Errorf("%d sums", n)
	}
}

// P5.3 and P5.5: the values of a least function, in both orders, which are not above one of both; and P5.6.
func TestLesserValues(t *testing.T) {
	n := 0
	pairs(40, func(r *rand.Rand, f, g []api.Piece) {
		for _, y := range [][2][]api.Piece{{f, g}, {g, f}} {
			least, e := piecewise.Least(y[0], y[1])
			if e != api.OK {
				continue
			}
			n++
			checkReduced(t, least)
			for _, x := range points(r, f, g, begins(least, nil)...) {
				lesser := valueAt(f, x)
				if other := valueAt(g, x); other.Cmp(lesser) < 0 {
					lesser = other
				}
				if valueAt(least, x).Cmp(lesser) != 0 {
					t.Fatalf("least of %s and %s at %d: %v, not %v", show(y[0]), show(y[1]), x, valueAt(least, x), lesser)
				}
			}
		}
	})
	if n < 200 {
		t.Errorf("%d least functions", n)
	}
}

// checkReduced checks P5.6 for a result.
func checkReduced(t *testing.T, f []api.Piece) {
	t.Helper()
	if !piecewise.Valid(f) {
		t.Fatalf("%s is not valid", show(f))
	}
	for i := range f {
		if i > 0 && f[i].Slope == f[i-1].Slope && ratio(f[i].Value).Cmp(draftOf(f[i-1]).at(f[i].From)) == 0 {
			t.Fatalf("piece %d of %s continues the one before", i, show(f))
		}
	}
}

// P5.5 and P5.6: the least function of a function and itself, its sum with 0 and it times 1 have its values, and are reduced.
func TestItself(t *testing.T) {
	isReduced := 0
	zero := fn("0 0 0")
	try := func(r *rand.Rand, f []api.Piece) {
		least, e := piecewise.Least(f, f)
		sum, d := piecewise.Add(f, zero)
		other, c := piecewise.Add(zero, f)
		times, b := piecewise.Scale(f, num("1"))
		if e != api.OK || d != api.OK || c != api.OK || b != api.OK {
			t.Fatalf("%s: %v, %v, %v, %v", show(f), e, d, c, b)
		}
		if !slices.Equal(least, sum) || !slices.Equal(least, other) || !slices.Equal(least, times) {
			t.Fatalf("%s: %s, %s, %s, %s", show(f), show(least), show(sum), show(other), show(times))
		}
		checkReduced(t, least)
		for _, x := range points(r, f, nil) {
			if valueAt(least, x).Cmp(valueAt(f, x)) != 0 {
				t.Fatalf("%s has become %s", show(f), show(least))
			}
		}
		if len(least) < len(f) {
			isReduced++
		}
	}
	pairs(40, func(r *rand.Rand, f, g []api.Piece) { try(r, f) })
	for _, f := range functions() {
		try(dice(), f)
	}
	if isReduced < 100 {
		t.Errorf("%d are shorter", isReduced)
	}
}

// P5.4: in all ranges of one integer, of all integers, and in others, against each integer for itself.
func TestFirstBelow(t *testing.T) {
	counts := map[string]int{}
	pairs(25, func(r *rand.Rand, f, g []api.Piece) {
		less := lessEverywhere(f, g)
		ranges := []api.Range{{Lo: 0, Hi: 100000}, {Lo: 100000, Hi: 100000}, {Lo: 0, Hi: 0}}
		for _, x := range points(r, f, g) {
			y := x + r.IntN(100001-x)
			near := min(100000, x+r.IntN(60))
			ranges = append(ranges, api.Range{Lo: x, Hi: x}, api.Range{Lo: x, Hi: y}, api.Range{Lo: x, Hi: near}, api.Range{Lo: x, Hi: 100000}, api.Range{Lo: 0, Hi: x})
		}
		for _, s := range ranges {
			want := slices.Index(less[s.Lo:s.Hi+1], true)
			got, is, e := piecewise.Below(f, g, s)
			if e != api.OK || is != (want >= 0) || is && got != s.Lo+want || !is && got != 0 {
				t.Fatalf("Below(%s, %s, %v): %d, %v, %v; want %d", show(f), show(g), s, got, is, e, s.Lo+want)
			}
			counts[kindOf(f, g, s, got, is)]++
		}
	})
	for _, kind := range []string{"none", "first", "begin", "inside"} {
		if counts[kind] < 100 {
			t.Errorf("%s: %v", kind, counts)
		}
	}
}

// kindOf says where a call of Below has found an integer.
func kindOf(f, g []api.Piece, r api.Range, x int, is bool) string {
	switch {
	case !is:
		return "none"
	case x == r.Lo:
		return "first"
	case slices.Contains(begins(f, g), x):
		return "begin"
	default:
		return "inside"
	}
}

// P5.4: a function is nowhere below itself, nor above what is least of it and another one.
func TestNowhereBelow(t *testing.T) {
	n := 0
	pairs(40, func(r *rand.Rand, f, g []api.Piece) {
		all := api.Range{Lo: 0, Hi: 100000}
		if x, is, e := piecewise.Below(f, f, all); x != 0 || is || e != api.OK {
			t.Fatalf("%s below itself: %d, %v, %v", show(f), x, is, e)
		}
		least, e := piecewise.Least(f, g)
		if e != api.OK {
			return
		}
		n++
		for _, h := range [][]api.Piece{f, g} {
			if x, is, e := piecewise.Below(h, least, all); x != 0 || is || e != api.OK {
				t.Fatalf("%s below the least one of it: %d, %v, %v", show(h), x, is, e)
			}
		}
	})
	if n < 100 {
		t.Errorf("%d least functions", n)
	}
}

// P5.7 and P5.6: the values of a multiple.
func TestMultiples(t *testing.T) {
	n := 0
	pairs(30, func(r *rand.Rand, f, g []api.Piece) {
		for _, text := range []string{"0", "1", "-1", "2", "-1/3", "3/2", "1/100", "-7", "25/4", "1000"} {
			times, e := piecewise.Scale(f, num(text))
			if e != api.OK {
				continue
			}
			n++
			checkReduced(t, times)
			for _, x := range points(r, f, nil) {
				if want := new(big.Rat).Mul(valueAt(f, x), ratio(num(text))); valueAt(times, x).Cmp(want) != 0 {
					t.Fatalf("%s times %s at %d: %v, not %v", show(f), text, x, valueAt(times, x), want)
				}
			}
		}
	})
	if n < 1000 {
		t.Errorf("%d multiples", n)
	}
}

// P1: with any arguments, each call ends with a result, or with an error that the chapter names and zero values, and again with the same one.
func TestTotal(t *testing.T) {
	all := append(functions(), noFunctions()...)
	integers := append(beyond(), 0, 5, 99999, 100000)
	for _, f := range all {
		for _, x := range integers {
			r, e := piecewise.At(f, x)
			s, d := piecewise.At(f, x)
			if r != s || e != d || e == api.OK != rational.Valid(r) || e != api.OK && r != (api.Rat{}) || !slices.Contains([]api.Errno{api.OK, api.ErrArg, api.ErrRange}, e) {
				t.Errorf("At(%s, %d): %v, %v and then %v, %v", show(f), x, r, e, s, d)
			}
		}
		for _, r := range append(noNumbers(), noSlopes()...) {
			got, e := piecewise.Scale(f, r)
			again, d := piecewise.Scale(f, r)
			checkTotal(t, got, again, e, d)
		}
	}
	for _, f := range all {
		for _, g := range all[:60] {
			got, e := piecewise.Add(f, g)
			again, d := piecewise.Add(f, g)
			checkTotal(t, got, again, e, d)
			got, e = piecewise.Least(g, f)
			again, d = piecewise.Least(g, f)
			checkTotal(t, got, again, e, d)
			for _, r := range []api.Range{{Lo: 0, Hi: 100000}, {Lo: -1, Hi: 5}, {Lo: 5, Hi: 4}, {Lo: 0, Hi: 1 << 62}, {Lo: -1 << 63, Hi: 1<<63 - 1}} {
				x, is, e := piecewise.Below(f, g, r)
				if e != api.OK && (x != 0 || is || e != api.ErrArg) || !is && x != 0 || x < 0 || x > 100000 {
					t.Errorf("Below(%s, %s, %v): %d, %v, %v", show(f), show(g), r, x, is, e)
				}
			}
		}
	}
}

// checkTotal checks the results of a call that was made twice.
func checkTotal(t *testing.T, got, again []api.Piece, e, d api.Errno) {
	t.Helper()
	if e != d || !slices.Equal(got, again) || (e == api.OK) != piecewise.Valid(got) || e != api.OK && len(got) > 0 || !slices.Contains([]api.Errno{api.OK, api.ErrArg, api.ErrRange, api.ErrLimit}, e) {
		t.Errorf("%s, %v and then %s, %v", show(got), e, show(again), d)
	}
}

// Section Rules: arguments stay as they are, and a result shares no memory with them, nor with that of another call.
func TestMemory(t *testing.T) {
	for _, l := range append(functions(), saw(most+1, 1, "0", "1"), fn("0 7 0, 1 7 0, 2 8 0, 1 1 1")) {
		f, g := slices.Clone(l), slices.Clone(l)
		var results [][]api.Piece
		add := func(r []api.Piece, _ api.Errno) { results = append(results, r) }
		add(piecewise.Add(f, g))
		add(piecewise.Add(f, f))
		add(piecewise.Add(f, fn("0 0 0")))
		add(piecewise.Least(f, g))
		add(piecewise.Least(f, f))
		add(piecewise.Least(f, fn("0 3 0")))
		add(piecewise.Scale(f, num("1")))
		add(piecewise.Scale(f, num("0")))
		add(piecewise.Scale(f, num("-1")))
		piecewise.Valid(f)
		piecewise.At(f, 5)
		piecewise.Below(f, g, api.Range{Lo: 0, Hi: 100})
		for _, r := range results {
			for i := range r[:cap(r)] {
				r[:cap(r)][i] = api.Piece{From: -7}
			}
		}
		if !slices.Equal(f, l) || !slices.Equal(g, l) {
			t.Errorf("%s has become %s and %s", show(l), show(f), show(g))
		}
	}
}
