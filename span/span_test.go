package span_test

import (
	"fmt"
	"math"
	"slices"
	"testing"

	"cohousing/api"
	"cohousing/span"
)

const (
	most = api.MaxSpans
	// end is the day behind the last one.
	end = api.MaxDay + 1
)

// operation is Union, Meet or Without, with what it should say of a day.
type operation struct {
	name string
	call func(a, b []api.Span) ([]api.Span, api.Errno)
	keep func(inA, inB bool) bool
}

func operations() []operation {
	return []operation{
		{"Union", span.Union, func(inA, inB bool) bool { return inA || inB }},
		{"Meet", span.Meet, func(inA, inB bool) bool { return inA && inB }},
		{"Without", span.Without, func(inA, inB bool) bool { return inA && !inB }},
	}
}

// list makes stretches from pairs of days.
func list(days ...int) []api.Span {
	var l []api.Span
	for i := 0; i+1 < len(days); i += 2 {
		l = append(l, api.Span{From: days[i], Until: days[i+1]})
	}
	return l
}

// comb has n stretches of a length, the first one from a day on, and each one so many days behind the From of the one before.
func comb(n, from, step, length int) []api.Span {
	var l []api.Span
	for i := range n {
		l = append(l, api.Span{From: from + i*step, Until: from + i*step + length})
	}
	return l
}

// moved has the stretches so many days later.
func moved(l []api.Span, by int) []api.Span {
	var later []api.Span
	for _, s := range l {
		later = append(later, api.Span{From: s.From + by, Until: s.Until + by})
	}
	return later
}

// must returns the result of a call that has no error.
func must[T any](t *testing.T) func(r T, e api.Errno) T {
	return func(r T, e api.Errno) T {
		t.Helper()
		if e != api.OK {
			t.Fatalf("%v", e)
		}
		return r
	}
}

// show has the first stretches of a list, and how many there are.
func show(l []api.Span) string { return fmt.Sprint(len(l), " ", l[:min(len(l), 8)]) }

// same reports whether two lists have the same stretches.
func same(a, b []api.Span) bool { return slices.Equal(a, b) }

// noStretches are spans that have no days, or some beyond the limits.
func noStretches() []api.Span {
	return list(
		0, 0, 1, 1, 5, 4, 5, 0, 5, -5, end, end, end-1, end-1, end, 0, -1, 0, -1, 1, -1, -1, -2, -1, -1, end, -5, 5, 0, -1,
		0, end+1, end-1, end+1, end, end+1, end+1, end+2, 2*end, 3*end, -end, end, -end, 0, 0, 1<<32, 1<<32, 1<<32+1, -1<<32, 5, 5, 5+1<<32,
		math.MinInt, math.MaxInt, math.MinInt, math.MinInt, math.MaxInt, math.MaxInt, math.MaxInt, math.MinInt, math.MinInt, 0, math.MinInt, 5, 0, math.MaxInt, 5, math.MaxInt,
		0, math.MinInt, 5, math.MinInt, math.MaxInt, 0, math.MaxInt-1, math.MaxInt, math.MinInt, math.MinInt+1, math.MinInt, end, end-1, math.MaxInt,
	)
}

// sets are sets of days.
func sets() [][]api.Span {
	return [][]api.Span{
		nil, {}, list(0, 1), list(end-1, end), list(0, end), list(0, 1, end-1, end), list(0, 1, 2, end), list(0, end-2, end-1, end), list(5, 6), list(5, 8), list(1, 4, 5, 8), list(1, 3, 5, 9), list(0, 2, 3, 4, 10, 20, 365, 366, 36000, 36500),
		comb(most, 0, 2, 1), comb(most, 0, 36, 35), comb(most, end-2*most+1, 2, 1), comb(most-1, 7, 10, 9),
	}
}

// noSets are lists that are no sets of days.
func noSets() [][]api.Span {
	all := [][]api.Span{
		// They touch, overlap, lie one in the other, are the same, or are not in order.
		list(1, 3, 3, 5), list(0, 1, 1, 2), list(0, 5, 5, end), list(1, 4, 3, 5), list(1, 9, 3, 5), list(1, 9, 1, 5), list(1, 9, 5, 9), list(3, 5, 1, 9), list(1, 3, 1, 3), list(0, end, 0, end),
		list(5, 8, 1, 3), list(3, 5, 1, 3), list(2, 3, 0, 1), list(1, 2, 5, 6, 3, 4), list(1, 2, 3, 4, 4, 6), list(1, 2, 3, 4, 1, 2), list(0, 1, 2, 9, 4, 6, 10, 12),
		// There are too many.
		comb(most+1, 0, 2, 1), comb(most+1, 0, 36, 35), comb(2*most, 1, 3, 1), comb(18263, 0, 2, 1),
		append(comb(most, 0, 2, 1), api.Span{From: 2*most - 2, Until: 2*most - 1}), append(comb(most, 2, 2, 1), api.Span{From: 0, Until: 1}), slices.Repeat(list(3, 4), 1001),
	}
	for _, s := range noStretches() {
		all = append(all, []api.Span{s}, append(list(0, 1, 2, 3), s), append([]api.Span{s}, list(6, 7)...), append(append(list(0, 1), s), list(30000, 30001)...), append(comb(most-1, 0, 2, 1), s))
	}
	return all
}

// P4.1, D1.
func TestValid(t *testing.T) {
	for _, l := range sets() {
		if !span.Valid(l) {
			t.Errorf("Valid(%s): false", show(l))
		}
	}
	for _, l := range noSets() {
		if span.Valid(l) {
			t.Errorf("Valid(%s): true", show(l))
		}
	}
}

// P4.1, D1: of all lists of up to three spans within -1 to 4, and of two within the other end of all days.
func TestEveryValid(t *testing.T) {
	var all []api.Span
	for from := -1; from <= 4; from++ {
		for until := -1; until <= 4; until++ {
			all = append(all, api.Span{From: from, Until: until})
		}
	}
	is := func(s api.Span, last int) bool {
		return s.From > last && s.From >= 0 && s.Until > s.From && s.Until <= end
	}
	for _, a := range all {
		if got, want := span.Valid([]api.Span{a}), is(a, -1); got != want {
			t.Errorf("Valid of %v: %v", a, got)
		}
		for _, b := range all {
			if got, want := span.Valid([]api.Span{a, b}), is(a, -1) && is(b, a.Until); got != want {
				t.Errorf("Valid of %v, %v: %v", a, b, got)
			}
			late := moved([]api.Span{a, b}, end-3)
			if got, want := span.Valid(late), is(late[0], -1) && is(late[1], late[0].Until); got != want {
				t.Errorf("Valid of %v: %v", late, got)
			}
			for _, c := range all {
				if got, want := span.Valid([]api.Span{a, b, c}), is(a, -1) && is(b, a.Until) && is(c, b.Until); got != want {
					t.Errorf("Valid of %v, %v, %v: %v", a, b, c, got)
				}
			}
		}
	}
}

// P4.1, D2.
func TestNormal(t *testing.T) {
	for _, x := range []struct{ l, want []api.Span }{
		{nil, nil},
		{[]api.Span{}, nil},
		{list(5, 8, 1, 3, 3, 4), list(1, 4, 5, 8)},
		{list(0, 1), list(0, 1)},
		{list(end-1, end), list(end-1, end)},
		{list(0, end), list(0, end)},
		{list(1, 3, 1, 3), list(1, 3)},
		{list(1, 3, 3, 5), list(1, 5)},
		{list(3, 5, 1, 3), list(1, 5)},
		{list(1, 3, 4, 5), list(1, 3, 4, 5)},
		{list(4, 5, 1, 3), list(1, 3, 4, 5)},
		{list(1, 4, 3, 5), list(1, 5)},
		{list(1, 9, 3, 5), list(1, 9)},
		{list(3, 5, 1, 9), list(1, 9)},
		{list(1, 9, 1, 5, 5, 9, 4, 6), list(1, 9)},
		{list(1, 9, 3, 5, 8, 12, 12, 13, 20, 21), list(1, 13, 20, 21)},
		{list(0, end, 5, 6, 0, 1, end-1, end), list(0, end)},
		{list(end-1, end, 0, 1), list(0, 1, end-1, end)},
		{list(0, 5, 5, end), list(0, end)},
		{comb(most, 0, 2, 1), comb(most, 0, 2, 1)},
		{comb(end, 0, 1, 1), list(0, end)},
		{comb(2*most, 7, 2, 2), list(7, 7+4*most)},
		{slices.Concat(comb(most, 1, 2, 1), comb(most, 0, 2, 1)), list(0, 2*most)},
		{slices.Concat(comb(most+1, 0, 2, 1), list(1, 2)), append(list(0, 3), comb(most-1, 4, 2, 1)...)},
		{slices.Repeat(list(7, 9, 3, 4, 9, 11), 5000), list(3, 4, 7, 11)},
		{slices.Repeat(comb(most, 0, 36, 35), 5), comb(most, 0, 36, 35)},
	} {
		if got, e := span.Normal(x.l); !same(got, x.want) || e != api.OK {
			t.Errorf("Normal(%s): %s, %v; want %s", show(x.l), show(got), e, show(x.want))
		}
	}
}

// P4.1, D2: an element that is no stretch, wherever it stands, and too many stretches of the result; the element comes first.
func TestNormalErrors(t *testing.T) {
	check := func(l []api.Span, want api.Errno) {
		t.Helper()
		if got, e := span.Normal(l); len(got) != 0 || e != want {
			t.Errorf("Normal(%s): %s, %v; want %v", show(l), show(got), e, want)
		}
	}
	many := comb(most+1, 0, 2, 1)
	check(many, api.ErrLimit)
	check(comb(18263, 0, 2, 1), api.ErrLimit)
	check(comb(18262, 1, 2, 1), api.ErrLimit)
	check(comb(most+1, end-2*most-1, 2, 1), api.ErrLimit)
	check(slices.Repeat(many, 3), api.ErrLimit)
	check(append(comb(most, 2, 2, 1), api.Span{From: 0, Until: 1}), api.ErrLimit)
	for _, s := range noStretches() {
		check([]api.Span{s}, api.ErrArg)
		check(append(list(0, end), s), api.ErrArg)
		check(append(append(list(1, 3), s), list(3, 5)...), api.ErrArg)
		check(append([]api.Span{s}, comb(most, 0, 2, 1)...), api.ErrArg)
		check(append([]api.Span{s}, many...), api.ErrArg)
		check(append(slices.Clone(many), s), api.ErrArg)
	}
}

// P4.1, D3.
func TestOperations(t *testing.T) {
	for _, x := range []struct{ a, b, union, meet, without []api.Span }{
		{nil, nil, nil, nil, nil},
		{[]api.Span{}, []api.Span{}, nil, nil, nil},
		{list(1, 3), nil, list(1, 3), nil, list(1, 3)},
		{nil, list(1, 3), list(1, 3), nil, nil},
		{list(1, 3), list(3, 5), list(1, 5), nil, list(1, 3)},
		{list(3, 5), list(1, 3), list(1, 5), nil, list(3, 5)},
		{list(1, 9), list(3, 5), list(1, 9), list(3, 5), list(1, 3, 5, 9)},
		{list(3, 5), list(1, 9), list(1, 9), list(3, 5), nil},
		{list(1, 3), list(4, 5), list(1, 3, 4, 5), nil, list(1, 3)},
		{list(1, 4), list(3, 5), list(1, 5), list(3, 4), list(1, 3)},
		{list(3, 5), list(1, 4), list(1, 5), list(3, 4), list(4, 5)},
		{list(1, 9), list(1, 5), list(1, 9), list(1, 5), list(5, 9)},
		{list(1, 9), list(5, 9), list(1, 9), list(5, 9), list(1, 5)},
		{list(1, 9), list(1, 9), list(1, 9), list(1, 9), nil},
		{list(1, 3, 5, 7), list(3, 5), list(1, 7), nil, list(1, 3, 5, 7)},
		{list(1, 3, 5, 7), list(2, 6), list(1, 7), list(2, 3, 5, 6), list(1, 2, 6, 7)},
		{list(1, 3, 5, 7), list(0, 9), list(0, 9), list(1, 3, 5, 7), nil},
		{list(0, 9), list(1, 3, 5, 7), list(0, 9), list(1, 3, 5, 7), list(0, 1, 3, 5, 7, 9)},
		{list(1, 2, 3, 4, 5, 6), list(2, 3, 4, 5, 6, 7), list(1, 7), nil, list(1, 2, 3, 4, 5, 6)},
		{list(0, end), list(0, end), list(0, end), list(0, end), nil},
		{list(0, end), list(0, 1), list(0, end), list(0, 1), list(1, end)},
		{list(0, end), list(end-1, end), list(0, end), list(end-1, end), list(0, end-1)},
		{list(0, 1), list(end-1, end), list(0, 1, end-1, end), nil, list(0, 1)},
		{list(0, 5), list(5, end), list(0, end), nil, list(0, 5)},
	} {
		for i, op := range operations() {
			want := [][]api.Span{x.union, x.meet, x.without}[i]
			if got, e := op.call(x.a, x.b); !same(got, want) || e != api.OK {
				t.Errorf("%s(%v, %v): %v, %v; want %v", op.name, x.a, x.b, got, e, want)
			}
		}
	}
}

// P4.1, D3: sets with as many stretches as possible, and results that have as many, or more.
func TestOperationLimits(t *testing.T) {
	full, other := comb(most, 0, 2, 1), comb(most, 1, 2, 1)
	wide := comb(most, 0, 36, 35)
	for _, x := range []struct {
		op         int
		a, b, want []api.Span
		e          api.Errno
	}{
		{0, full, full, full, api.OK},
		{0, full, nil, full, api.OK},
		{0, full, other, list(0, 2*most), api.OK},
		{0, comb(most/2, 0, 2, 1), comb(most/2, most, 2, 1), full, api.OK},
		{0, comb(most-1, 0, 2, 1), list(2*most-2, 2*most-1), full, api.OK},
		{0, full, list(2*most-1, 2*most), append(comb(most-1, 0, 2, 1), list(2*most-2, 2*most)...), api.OK},
		{0, full, list(2*most, 2*most+1), nil, api.ErrLimit},
		{0, full, list(end-1, end), nil, api.ErrLimit},
		{0, list(0, 1), comb(most, 2, 2, 1), nil, api.ErrLimit},
		{0, full, comb(most, 2*most, 2, 1), nil, api.ErrLimit},
		{0, comb(most, 0, 4, 1), comb(most, 2, 4, 1), nil, api.ErrLimit},
		{0, comb(most/2, 0, 2, 1), comb(most/2+1, most, 2, 1), nil, api.ErrLimit},
		{1, full, full, full, api.OK},
		{1, full, other, nil, api.OK},
		{1, full, list(0, end), full, api.OK},
		{1, wide, comb(most, 35, 36, 1), nil, api.OK},
		// Each stretch but the last one meets two of the other set.
		{1, comb(most, 0, 4, 3), comb(most, 2, 4, 3), nil, api.ErrLimit},
		{1, comb(most/2, 0, 4, 3), comb(most/2, 2, 4, 3), comb(most-1, 2, 2, 1), api.OK},
		{1, comb(most/2, 0, 4, 3), append(list(0, 1), comb(most/2, 2, 4, 3)...), append(list(0, 1), comb(most-1, 2, 2, 1)...), api.OK},
		{1, append(comb(most/2, 4, 4, 3), list(30000, 30010)...), append(list(4, 5), append(comb(most/2, 6, 4, 3), list(30001, 30002)...)...), nil, api.ErrLimit},
		{2, full, other, full, api.OK},
		{2, full, full, nil, api.OK},
		{2, full, nil, full, api.OK},
		{2, wide, list(1, 2), nil, api.ErrLimit},
		{2, wide, wide, nil, api.OK},
		{2, wide, comb(most, 1, 36, 1), nil, api.ErrLimit},
		{2, wide[:most-1], list(1, 2), append(list(0, 1, 2, 35), comb(most-2, 36, 36, 35)...), api.OK},
		{2, list(0, end), comb(most-1, 1, 2, 1), append(comb(most-1, 0, 2, 1), list(2*most-2, end)...), api.OK},
		{2, list(0, end), full, append(comb(most-1, 1, 2, 1), list(2*most-1, end)...), api.OK},
		{2, list(0, end), other, nil, api.ErrLimit},
	} {
		op := operations()[x.op]
		if got, e := op.call(x.a, x.b); !same(got, x.want) || e != x.e {
			t.Errorf("%s(%s, %s): %s, %v; want %s, %v", op.name, show(x.a), show(x.b), show(got), e, show(x.want), x.e)
		}
	}
}

// P4.1, D3: what is no set of days is refused on either side, before a limit.
func TestOperationArguments(t *testing.T) {
	good := append(sets(), comb(most, 2*most+2, 2, 1))
	for _, bad := range noSets() {
		for _, op := range operations() {
			for _, l := range append(good, bad, list(1, 3, 3, 5)) {
				if got, e := op.call(l, bad); len(got) != 0 || e != api.ErrArg {
					t.Errorf("%s(%s, %s): %s, %v", op.name, show(l), show(bad), show(got), e)
				}
				if got, e := op.call(bad, l); len(got) != 0 || e != api.ErrArg {
					t.Errorf("%s(%s, %s): %s, %v", op.name, show(bad), show(l), show(got), e)
				}
			}
		}
	}
}

// P4.1, D4: days before, between and behind the stretches, their first and last ones, and integers that are no days.
func TestHas(t *testing.T) {
	for _, x := range []struct {
		l       []api.Span
		in, out []int
	}{
		{nil, nil, []int{0, 1, 5, end - 1}},
		{list(5, 6), []int{5}, []int{0, 4, 6, 7}},
		{list(1, 3, 5, 9), []int{1, 2, 5, 6, 7, 8}, []int{0, 3, 4, 9, 10, end - 1}},
		{list(0, 1, 2, 3), []int{0, 2}, []int{1, 3, 4}},
		{list(0, end), []int{0, 1, 18000, end - 2, end - 1}, nil},
		{list(end-1, end), []int{end - 1}, []int{0, end - 2}},
		{list(0, 1, end-1, end), []int{0, end - 1}, []int{1, end - 2}},
		{comb(most, 0, 36, 35), []int{0, 34, 36, 36*most - 36, 36*most - 2}, []int{35, 71, 36*most - 37, 36*most - 1, 36 * most, end - 1}},
	} {
		for _, day := range x.in {
			if has, e := span.Has(x.l, day); !has || e != api.OK {
				t.Errorf("Has(%s, %d): %v, %v", show(x.l), day, has, e)
			}
		}
		for _, day := range append(x.out, -1, -2, -end, end, end+1, 2*end, 1<<32, -1<<32, 5+1<<32, math.MaxInt, math.MinInt) {
			if has, e := span.Has(x.l, day); has || e != api.OK {
				t.Errorf("Has(%s, %d): %v, %v", show(x.l), day, has, e)
			}
		}
	}
}

// P4.1, D5.
func TestCount(t *testing.T) {
	for _, x := range []struct {
		l    []api.Span
		want int
	}{
		{nil, 0}, {[]api.Span{}, 0}, {list(0, 1), 1}, {list(5, 6), 1}, {list(1, 3, 5, 9), 6}, {list(0, end), 36525}, {list(end-1, end), 1}, {list(0, 1, end-1, end), 2}, {list(0, 1, 2, end), 36524},
		{comb(most, 0, 2, 1), most}, {comb(most, 0, 36, 35), 35 * most},
	} {
		if n, e := span.Count(x.l); n != x.want || e != api.OK {
			t.Errorf("Count(%s): %d, %v; want %d", show(x.l), n, e, x.want)
		}
	}
}

// P4.1, D4 and D5: what is no set of days is refused, even if one of its stretches has the day, or the integer is no day.
func TestNoSet(t *testing.T) {
	for _, bad := range noSets() {
		for _, day := range []int{0, 1, 3, 5, end - 1, -1, end, math.MaxInt, math.MinInt} {
			if has, e := span.Has(bad, day); has || e != api.ErrArg {
				t.Errorf("Has(%s, %d): %v, %v", show(bad), day, has, e)
			}
		}
		if n, e := span.Count(bad); n != 0 || e != api.ErrArg {
			t.Errorf("Count(%s): %d, %v", show(bad), n, e)
		}
	}
}
