package span_test

import (
	"math/rand/v2"
	"slices"
	"testing"

	"cohousing/api"
	"cohousing/span"
)

// subset has the days from a day on that have a bit in a number, as the one set that they make.
func subset(bits, from int) []api.Span {
	var l []api.Span
	for i := 0; bits>>i > 0; i++ {
		if bits>>i&1 == 0 {
			continue
		}
		if i > 0 && bits>>(i-1)&1 == 1 {
			l[len(l)-1].Until++
			continue
		}
		l = append(l, api.Span{From: from + i, Until: from + i + 1})
	}
	return l
}

// marks has true for each day that one of some stretches has.
func marks(l []api.Span) []bool {
	days := make([]bool, end)
	for _, s := range l {
		for day := s.From; day < s.Until; day++ {
			days[day] = true
		}
	}
	return days
}

// setOf is the one set with the days that are marked.
func setOf(days []bool) []api.Span {
	var l []api.Span
	for day, is := range days {
		if is && day > 0 && days[day-1] {
			l[len(l)-1].Until++
		} else if is {
			l = append(l, api.Span{From: day, Until: day + 1})
		}
	}
	return l
}

// dice are the same numbers in each run.
func dice() *rand.Rand { return rand.New(rand.NewPCG(4, 4)) }

// stretches are some within so many days, in any order; they touch and overlap.
func stretches(r *rand.Rand, n, days, length int) []api.Span {
	var l []api.Span
	for range n {
		from := r.IntN(days)
		l = append(l, api.Span{From: from, Until: min(days, from+1+r.IntN(length))})
	}
	return l
}

// P4.2: the days of each operation on all subsets of seven days, at the first and at the last days of all.
func TestEverySubset(t *testing.T) {
	for _, from := range []int{0, end - 7} {
		for x := range 128 {
			for y := range 128 {
				for _, op := range operations() {
					bits := 0
					for i := range 7 {
						if op.keep(x>>i&1 == 1, y>>i&1 == 1) {
							bits |= 1 << i
						}
					}
					a, b := subset(x, from), subset(y, from)
					if got, e := op.call(a, b); !same(got, subset(bits, from)) || e != api.OK {
						t.Fatalf("%s(%v, %v): %v, %v; want %v", op.name, a, b, got, e, subset(bits, from))
					}
				}
			}
		}
	}
}

// P4.2: the days of each operation on greater sets, and of Normal on stretches in any order; Has and Count agree with them.
func TestDays(t *testing.T) {
	r := dice()
	for _, x := range []struct{ n, days, length int }{{1, 30, 30}, {4, 40, 9}, {12, 60, 5}, {60, 1000, 10}, {500, end, 40}, {500, end, 2000}, {900, end, 30}, {3000, end, 100}, {3000, 1500, 2}} {
		for range 8 {
			l, m := stretches(r, x.n, x.days, x.length), stretches(r, x.n, x.days, x.length)
			inL, inM := marks(l), marks(m)
			a, e := span.Normal(l)
			if want := setOf(inL); len(want) > most && e != api.ErrLimit || len(want) <= most && (e != api.OK || !same(a, want)) {
				t.Fatalf("Normal(%s): %s, %v; want %s", show(l), show(a), e, show(want))
			}
			b, f := span.Normal(m)
			if e != api.OK || f != api.OK {
				continue
			}
			for _, op := range operations() {
				days := make([]bool, end)
				for day := range days {
					days[day] = op.keep(inL[day], inM[day])
				}
				want := setOf(days)
				got, e := op.call(a, b)
				if len(want) > most && e != api.ErrLimit || len(want) <= most && (e != api.OK || !same(got, want)) {
					t.Fatalf("%s(%s, %s): %s, %v; want %s", op.name, show(a), show(b), show(got), e, show(want))
				}
			}
			checkDays(t, a, inL)
		}
	}
}

// checkDays checks what Has and Count say of a set with the days that are marked.
func checkDays(t *testing.T, set []api.Span, days []bool) {
	t.Helper()
	n := 0
	for day, is := range days {
		if is {
			n++
		}
		if len(set) > 100 && day%7 != 0 {
			continue
		}
		if has, e := span.Has(set, day); has != is || e != api.OK {
			t.Fatalf("Has(%s, %d): %v, %v", show(set), day, has, e)
		}
	}
	if got, e := span.Count(set); got != n || e != api.OK {
		t.Fatalf("Count(%s): %d, %v; want %d", show(set), got, e, n)
	}
}

// P4.3: a set stays as it is, whatever way it comes about.
func TestOneForm(t *testing.T) {
	for _, l := range sets() {
		check := func(got []api.Span, e api.Errno) {
			t.Helper()
			if !same(got, l) || e != api.OK {
				t.Errorf("%s: %s, %v", show(l), show(got), e)
			}
		}
		check(span.Normal(l))
		check(span.Union(l, nil))
		check(span.Union(nil, l))
		check(span.Union(l, l))
		check(span.Meet(l, l))
		check(span.Meet(l, list(0, end)))
		check(span.Meet(list(0, end), l))
		check(span.Without(l, nil))
	}
}

// P4.3: the result of each call is a set of days, and the same set as Normal has for it.
func TestResultsAreSets(t *testing.T) {
	check := func(l []api.Span) {
		t.Helper()
		if again, e := span.Normal(l); !span.Valid(l) || !same(again, l) || e != api.OK {
			t.Fatalf("%v is not in the one form: %v, %v", l, again, e)
		}
	}
	for x := range 64 {
		for y := range 64 {
			for _, op := range operations() {
				check(must[[]api.Span](t)(op.call(subset(x, 3), subset(y, 5))))
			}
			// The days of both one by one, the later ones first.
			var l []api.Span
			for i := range 12 {
				l = append(l, subset(x>>i&1|y>>i&1, 12-i)...)
			}
			check(must[[]api.Span](t)(span.Normal(l)))
		}
	}
}

// P4.3: neither the order nor the repetition of stretches plays a part, nor how they are cut into pieces.
func TestNormalOrder(t *testing.T) {
	r := dice()
	for _, l := range append(sets(), list(5, 8, 1, 3, 3, 4), list(1, 9, 3, 5, 5, 12, 20, 30, 25, 26, 11, 14), stretches(r, 200, 3000, 20)) {
		want, e := span.Normal(l)
		if e != api.OK {
			t.Fatalf("Normal(%s): %v", show(l), e)
		}
		for range 10 {
			m := slices.Repeat(l, 1+r.IntN(3))
			for range min(len(l), 50) {
				s := l[r.IntN(len(l))]
				cut := s.From + r.IntN(s.Until-s.From)
				if cut > s.From {
					m = append(m, api.Span{From: s.From, Until: cut}, api.Span{From: cut, Until: s.Until})
				}
			}
			r.Shuffle(len(m), func(i, j int) { m[i], m[j] = m[j], m[i] })
			if got, e := span.Normal(m); !same(got, want) || e != api.OK {
				t.Errorf("Normal(%s): %s, %v; want %s", show(m), show(got), e, show(want))
			}
		}
	}
}

// P4.3: nor does the order play a part in what is refused.
func TestNormalOrderOfErrors(t *testing.T) {
	r := dice()
	many := comb(most+1, 0, 2, 1)
	bad := append(slices.Clone(many), api.Span{From: 5, Until: 5})
	for range 20 {
		r.Shuffle(len(many), func(i, j int) { many[i], many[j] = many[j], many[i] })
		r.Shuffle(len(bad), func(i, j int) { bad[i], bad[j] = bad[j], bad[i] })
		if got, e := span.Normal(many); len(got) != 0 || e != api.ErrLimit {
			t.Errorf("Normal(%s): %s, %v", show(many), show(got), e)
		}
		if got, e := span.Normal(bad); len(got) != 0 || e != api.ErrArg {
			t.Errorf("Normal(%s): %s, %v", show(bad), show(got), e)
		}
	}
}

// checkLaws checks P4.4 for three sets with which no limit is met.
func checkLaws(t *testing.T, a, b, c []api.Span) {
	t.Helper()
	set := must[[]api.Span](t)
	union := func(x, y []api.Span) []api.Span { return set(span.Union(x, y)) }
	meet := func(x, y []api.Span) []api.Span { return set(span.Meet(x, y)) }
	without := func(x, y []api.Span) []api.Span { return set(span.Without(x, y)) }
	for _, law := range []struct {
		name string
		x, y []api.Span
	}{
		{"Union is commutative", union(a, b), union(b, a)},
		{"Meet is commutative", meet(a, b), meet(b, a)},
		{"Union is associative", union(union(a, b), c), union(a, union(b, c))},
		{"Meet is associative", meet(meet(a, b), c), meet(a, meet(b, c))},
		{"Union is idempotent", union(a, a), a},
		{"Meet is idempotent", meet(a, a), a},
		{"Meet distributes", meet(a, union(b, c)), union(meet(a, b), meet(a, c))},
		{"Union distributes", union(a, meet(b, c)), meet(union(a, b), union(a, c))},
		{"without both", without(a, union(b, c)), without(without(a, b), c)},
		{"without itself", without(a, a), nil},
		{"both parts", union(meet(a, b), without(a, b)), a},
	} {
		if !same(law.x, law.y) {
			t.Fatalf("%s: %s and %s for %s, %s, %s", law.name, show(law.x), show(law.y), show(a), show(b), show(c))
		}
	}
}

// P4.4: for all subsets of five days, and for greater sets.
func TestLaws(t *testing.T) {
	for x := range 32 {
		for y := range 32 {
			for z := range 32 {
				checkLaws(t, subset(x, 0), subset(y, 0), subset(z, 0))
			}
		}
	}
	r := dice()
	set := must[[]api.Span](t)
	for _, x := range []struct{ n, days, length int }{{3, 50, 20}, {20, 200, 9}, {100, 3000, 25}, {160, end, 150}, {160, end, 2000}} {
		for range 20 {
			checkLaws(t, set(span.Normal(stretches(r, x.n, x.days, x.length))), set(span.Normal(stretches(r, x.n, x.days, x.length))), set(span.Normal(stretches(r, x.n, x.days, x.length))))
		}
	}
	full, other := comb(most, 0, 2, 1), comb(most, 1, 2, 1)
	checkLaws(t, full, other, list(0, end))
	checkLaws(t, full, full, other)
	checkLaws(t, list(0, end), full, comb(most/2, 0, 4, 1))
}

// P4.4: the operations are commutative in their errors, too.
func TestCommutativeErrors(t *testing.T) {
	all := append(append(sets(), noSets()[:24]...), comb(most, 0, 4, 3), comb(most, 2, 4, 3))
	for _, a := range all {
		for _, b := range all {
			for _, op := range operations()[:2] {
				x, e := op.call(a, b)
				y, f := op.call(b, a)
				if !same(x, y) || e != f {
					t.Errorf("%s of %s and %s: %s, %v and %s, %v", op.name, show(a), show(b), show(x), e, show(y), f)
				}
			}
		}
	}
}

// P4.5: for all subsets of seven days, and for the sets of days with which no limit is met.
func TestNumbers(t *testing.T) {
	var all [][]api.Span
	for x := range 128 {
		all = append(all, subset(x, end-7))
	}
	all = append(all, sets()...)
	number := must[int](t)
	for _, a := range all {
		for _, b := range all {
			union, e := span.Union(a, b)
			meet, f := span.Meet(a, b)
			if e == api.ErrLimit || f == api.ErrLimit {
				continue
			}
			if e != api.OK || f != api.OK {
				t.Fatalf("%s and %s: %v, %v", show(a), show(b), e, f)
			}
			x, y := number(span.Count(union)), number(span.Count(meet))
			if n := number(span.Count(a)) + number(span.Count(b)); x+y != n {
				t.Fatalf("%s and %s: %d and %d days together, %d of each", show(a), show(b), x, y, n)
			}
		}
	}
}

// P4.6: as far as the first and the last day.
func TestShift(t *testing.T) {
	for x := range 64 {
		for y := range 64 {
			a, b := subset(x, 0), subset(y, 0)
			for _, op := range operations() {
				set := must[[]api.Span](t)(op.call(a, b))
				for _, by := range []int{1, 2, 35, 12345, end - 7, end - 6} {
					if got, e := op.call(moved(a, by), moved(b, by)); !same(got, moved(set, by)) || e != api.OK {
						t.Fatalf("%s(%v, %v) %d days later: %v, %v; before: %v", op.name, a, b, by, got, e, set)
					}
				}
			}
		}
	}
}

// P4.6: greater sets, also where they meet a limit.
func TestShiftOfMany(t *testing.T) {
	full, halves := comb(most, 0, 4, 3), comb(most/2, 2, 4, 3)
	for _, b := range [][]api.Span{nil, full, comb(most, 2, 4, 3), comb(most, 3, 4, 1), halves, list(0, 4*most), list(1, 2), list(4*most, 4*most+1)} {
		for _, op := range operations() {
			set, e := op.call(full, b)
			for _, by := range []int{1, 99, 30000, end - 4*most - 2} {
				if got, f := op.call(moved(full, by), moved(b, by)); !same(got, moved(set, by)) || f != e {
					t.Errorf("%s of %s %d days later: %s, %v; before: %s, %v", op.name, show(b), by, show(got), f, show(set), e)
				}
			}
		}
	}
}

// P1: with any arguments, each call ends with a result, or with an error that the chapter names and zero values, and again with the same one.
func TestTotal(t *testing.T) {
	all := append(append(sets(), noSets()...), slices.Repeat(noStretches(), 100))
	check := func(x, y []api.Span, e, f api.Errno, errors ...api.Errno) {
		t.Helper()
		if e != f || !same(x, y) || e != api.OK && (len(x) > 0 || !slices.Contains(errors, e)) || !span.Valid(x) {
			t.Errorf("%s, %v and then %s, %v", show(x), e, show(y), f)
		}
	}
	for _, a := range all {
		x, e := span.Normal(a)
		y, f := span.Normal(a)
		check(x, y, e, f, api.ErrArg, api.ErrLimit)
		for _, b := range all[:60] {
			for _, op := range operations() {
				x, e := op.call(a, b)
				y, f := op.call(a, b)
				check(x, y, e, f, api.ErrArg, api.ErrLimit)
			}
		}
	}
}

// Section Rules: arguments stay as they are, and a result shares no memory with them.
func TestMemory(t *testing.T) {
	for _, l := range append(sets(), list(5, 8, 1, 3, 3, 4), list(1, 3, 3, 5), comb(most+1, 0, 2, 1), noStretches()) {
		a, b := slices.Clone(l), slices.Clone(l)
		results := [][]api.Span{}
		add := func(r []api.Span, _ api.Errno) { results = append(results, r) }
		add(span.Normal(a))
		for _, op := range operations() {
			add(op.call(a, b))
			add(op.call(a, nil))
			add(op.call(nil, b))
			add(op.call(a, list(0, end)))
			add(op.call(a, a))
		}
		span.Valid(a)
		span.Has(a, 5)
		span.Count(a)
		for _, r := range results {
			for i := range r[:cap(r)] {
				r[:cap(r)][i] = api.Span{From: -7, Until: -7}
			}
		}
		if !same(a, l) || !same(b, l) {
			t.Errorf("%s has become %s and %s", show(l), show(a), show(b))
		}
	}
}
