package money_test

import (
	"math"
	"math/big"
	"regexp"
	"slices"
	"strconv"
	"strings"
	"testing"

	"cohousing/api"
	"cohousing/money"
)

const most = api.MaxCents

// amounts are around 0, halves of limits, and the limits, with either sign.
func amounts() []int {
	var all []int
	for n := range 31 {
		all = append(all, n)
	}
	all = append(all, 99, 100, 101, 199, 999, 1000, 1205, 99999, 100000, 12345678, 333333333, 500000000, 666666667, 123456789, most-1, most)
	for _, n := range slices.Clone(all[1:]) {
		all = append(all, -n)
	}
	return all
}

// noAmounts are integers beyond the limits.
func noAmounts() []int {
	return []int{
		most + 1, -most - 1, 2 * most, -2 * most, most * most, -most * most, 1 << 32, -1 << 32, 1 << 62, -1 << 62,
		math.MaxInt, math.MaxInt - 1, math.MinInt, math.MinInt + 1,
	}
}

// numbers are all small ones, and some at each limit.
func numbers() []api.Rat {
	var all []api.Rat
	for n := -7; n <= 7; n++ {
		for d := 1; d <= 7; d++ {
			if isReduced(n, d) {
				all = append(all, api.Rat{N: n, D: d})
			}
		}
	}
	for _, sign := range []int{1, -1} {
		for _, r := range []api.Rat{{N: most, D: 1}, {N: most - 1, D: 1}, {N: 1, D: most}, {N: 1, D: most - 1}, {N: most, D: most - 1}, {N: most - 1, D: most}, {N: 499999999, D: most}, {N: 500000001, D: most}, {N: 395309, D: 3}, {N: 99991, D: 31607}, {N: 1, D: 40}, {N: 73, D: 365 * 4}} {
			r.N *= sign
			if isReduced(r.N, r.D) {
				all = append(all, r)
			}
		}
	}
	return all
}

func isReduced(n, d int) bool { return big.NewRat(int64(n), int64(d)).Denom().Int64() == int64(d) }

// noNumbers are not reduced, or beyond a limit.
func noNumbers() []api.Rat {
	return []api.Rat{
		{}, {N: 1}, {N: 0, D: 2}, {N: 2, D: 4}, {N: -3, D: 6}, {N: most, D: 2}, {N: 1, D: -1}, {N: -1, D: -2}, {N: 0, D: -1},
		{N: most + 1, D: 1}, {N: -most - 1, D: 1}, {N: 1, D: most + 1}, {N: math.MinInt, D: 1}, {N: 1, D: math.MinInt},
		{N: math.MaxInt, D: 1}, {N: 1, D: math.MaxInt}, {N: math.MinInt, D: math.MinInt}, {N: math.MinInt}, {N: 0, D: math.MaxInt},
	}
}

// exact is a * b / c in package big, with c other than 0.
func exact(a, b, c int) *big.Rat {
	product := new(big.Int).Mul(big.NewInt(int64(a)), big.NewInt(int64(b)))
	return new(big.Rat).SetFrac(product, big.NewInt(int64(c)))
}

// whole is an integer in package big.
func whole(n int) *big.Rat { return new(big.Rat).SetInt64(int64(n)) }

// distance is that of two values.
func distance(a, b *big.Rat) *big.Rat {
	d := new(big.Rat).Sub(a, b)
	return d.Abs(d)
}

// mustScale returns what Scale has for an amount and a number, and whether it is an amount.
func mustScale(t *testing.T, cents int, r api.Rat) (int, bool) {
	t.Helper()
	n, e := money.Scale(cents, r)
	if e != api.OK && (e != api.ErrRange || n != 0) {
		t.Fatalf("Scale(%d, %v): %d, %v", cents, r, n, e)
	}
	return n, e == api.OK
}

// P2.1, B1.
func TestAdd(t *testing.T) {
	for _, x := range []struct {
		l    []int
		want int
		e    api.Errno
	}{
		{nil, 0, api.OK},
		{[]int{}, 0, api.OK},
		{[]int{0}, 0, api.OK},
		{[]int{-7}, -7, api.OK},
		{[]int{1, 2, 3, -10}, -4, api.OK},
		{[]int{most}, most, api.OK},
		{[]int{-most}, -most, api.OK},
		{[]int{most - 1, 1}, most, api.OK},
		{[]int{1 - most, -1}, -most, api.OK},
		{[]int{most, 1}, 0, api.ErrRange},
		{[]int{-most, -1}, 0, api.ErrRange},
		{[]int{most, most, -most}, most, api.OK},
		{[]int{-most, -most, -most, most, most, most}, 0, api.OK},
		{[]int{most + 1}, 0, api.ErrArg},
		{[]int{-most - 1}, 0, api.ErrArg},
		{[]int{most, most, most + 1}, 0, api.ErrArg},
		{[]int{most + 1, most, most}, 0, api.ErrArg},
		{[]int{most + 1, -1}, 0, api.ErrArg},
		{[]int{math.MaxInt, math.MinInt, 1}, 0, api.ErrArg},
		{[]int{math.MinInt, math.MinInt}, 0, api.ErrArg},
		{slices.Repeat([]int{most}, 1000), 0, api.ErrRange},
		{slices.Repeat([]int{most, -most}, 1000), 0, api.OK},
		{slices.Repeat([]int{-1000000}, 1000), -most, api.OK},
		{slices.Repeat([]int{-1000000}, 1001), 0, api.ErrRange},
	} {
		if n, e := money.Add(x.l...); n != x.want || e != x.e {
			t.Errorf("Add of %.12v: %d, %v; want %d, %v", x.l, n, e, x.want, x.e)
		}
	}
}

// P2.1, B2.
func TestScale(t *testing.T) {
	for _, x := range []struct {
		cents int
		r     api.Rat
		want  int
		e     api.Errno
	}{
		{7, api.Rat{N: 1, D: 2}, 4, api.OK},
		{-7, api.Rat{N: 1, D: 2}, -4, api.OK},
		{7, api.Rat{N: -1, D: 2}, -4, api.OK},
		{-7, api.Rat{N: -1, D: 2}, 4, api.OK},
		{4, api.Rat{N: 1, D: 3}, 1, api.OK},
		{5, api.Rat{N: 1, D: 3}, 2, api.OK},
		{-5, api.Rat{N: 1, D: 3}, -2, api.OK},
		{1, api.Rat{N: 1, D: 2}, 1, api.OK},
		{1, api.Rat{N: -1, D: 2}, -1, api.OK},
		{1, api.Rat{N: 1, D: 3}, 0, api.OK},
		{-1, api.Rat{N: 1, D: 3}, 0, api.OK},
		{3, api.Rat{N: 1, D: 2}, 2, api.OK},
		{30000, api.Rat{N: 1, D: 100}, 300, api.OK},
		{0, api.Rat{N: most, D: 1}, 0, api.OK},
		{most, api.Rat{D: 1}, 0, api.OK},
		{most, api.Rat{N: 1, D: 1}, most, api.OK},
		{most, api.Rat{N: -1, D: 1}, -most, api.OK},
		{most, api.Rat{N: 1, D: most}, 1, api.OK},
		{1, api.Rat{N: most, D: 1}, most, api.OK},
		{-1, api.Rat{N: most, D: 1}, -most, api.OK},
		{most / 2, api.Rat{N: 1, D: most}, 1, api.OK},
		{-most / 2, api.Rat{N: 1, D: most}, -1, api.OK},
		{most/2 - 1, api.Rat{N: 1, D: most}, 0, api.OK},
		{1 - most/2, api.Rat{N: 1, D: most}, 0, api.OK},
		{most, api.Rat{N: most - 1, D: most}, most - 1, api.OK},
		// A third of a cent above the limit is rounded to the limit, half a cent is not.
		{7589, api.Rat{N: 395309, D: 3}, most, api.OK},
		{-7589, api.Rat{N: 395309, D: 3}, -most, api.OK},
		{666666667, api.Rat{N: 3, D: 2}, 0, api.ErrRange},
		{666666667, api.Rat{N: -3, D: 2}, 0, api.ErrRange},
		{2, api.Rat{N: most, D: 1}, 0, api.ErrRange},
		{most, api.Rat{N: most, D: 1}, 0, api.ErrRange},
		{-most, api.Rat{N: most, D: 1}, 0, api.ErrRange},
		{most, api.Rat{N: most, D: most - 1}, 0, api.ErrRange},
		{most + 1, api.Rat{N: 2, D: 1}, 0, api.ErrArg},
		{most + 1, api.Rat{D: 1}, 0, api.ErrArg},
		{most, api.Rat{N: 4, D: 2}, 0, api.ErrArg},
		{0, api.Rat{}, 0, api.ErrArg},
	} {
		if n, e := money.Scale(x.cents, x.r); n != x.want || e != x.e {
			t.Errorf("Scale(%d, %v): %d, %v; want %d, %v", x.cents, x.r, n, e, x.want, x.e)
		}
	}
}

// nearest is what B2 asks for, in package big.
func nearest(cents int, r api.Rat) (int, api.Errno) {
	v := exact(cents, r.N, r.D)
	half := big.NewRat(1, 2)
	size := new(big.Rat).Add(new(big.Rat).Abs(v), half)
	n := new(big.Int).Quo(size.Num(), size.Denom())
	if n.Cmp(big.NewInt(most)) > 0 {
		return 0, api.ErrRange
	}
	return int(n.Int64()) * v.Sign(), api.OK
}

// P2.1, B2: the same as in package big, for each amount and each number.
func TestScaleNearest(t *testing.T) {
	for _, cents := range amounts() {
		for _, r := range numbers() {
			want, f := nearest(cents, r)
			if n, e := money.Scale(cents, r); n != want || e != f {
				t.Errorf("Scale(%d, %v): %d, %v; want %d, %v", cents, r, n, e, want, f)
			}
		}
	}
}

// P2.1, B4 and B5.
func TestText(t *testing.T) {
	for _, x := range []struct {
		cents int
		want  string
	}{
		{1205, "12.05"}, {-30, "-0.30"}, {0, "0.00"}, {1, "0.01"}, {-1, "-0.01"}, {9, "0.09"}, {10, "0.10"}, {99, "0.99"}, {-99, "-0.99"}, {100, "1.00"}, {-100, "-1.00"},
		{101, "1.01"}, {1000, "10.00"}, {100000, "1000.00"}, {-123456789, "-1234567.89"}, {most, "10000000.00"}, {-most, "-10000000.00"}, {most - 1, "9999999.99"}, {1 - most, "-9999999.99"},
	} {
		if s, e := money.Text(x.cents); s != x.want || e != api.OK {
			t.Errorf("Text(%d): %q, %v; want %q", x.cents, s, e, x.want)
		}
		if n, e := money.Parse(x.want); n != x.cents || e != api.OK {
			t.Errorf("Parse(%q): %d, %v; want %d", x.want, n, e, x.cents)
		}
	}
}

// noTexts are like texts of amounts, but no integer has them.
func noTexts() []string {
	return []string{
		"", "-", ".", "-.", "0", "-0", "1", "100", "-1", "0.", "-0.", "1.", "1.0", "1.5", "1.000", "1.005", ".00", ".50", "-.50", "-0.00", "00.10", "00.00", "01.00", "-01.00", "-00.01", "000.01",
		"+1.00", "+0.00", "-+1.00", "+-1.00", "--1.00", "--0.30", "1.-0", "1.-5", "1.+5", "1.0-", "0-.00", "1-.00", "1.00-", " 1.00", "1.00 ", "1 .00", "1. 00", "1.0 ", "1.00\n", "\t1.00", "- 1.00", "1,00", "1,000.00",
		"1_0.00", "1.0_", "1_.00", "1..00", "1.00.", "1.00.00", ".1.00", "1.0.0", "..", "...", "0x1.00", "1e2.00", "1.e2", "1.0e", "a.00", "1.a0", "1.0a", "NaN", "Inf", "-Inf", "inf.00", "1.00\x00", "\x001.00", "\xff.00", "1.\xff\xff", "1.0\xff",
		"−1.00", "１.00", "1.٣٣", "٣.00", "1.é", "1·00", "$1.00", "1.00 EUR", "'1.00'", "1/2", "1.00/2",
		"99999999999999999999", "99999999999999999999.0", "+99999999999999999999.00", "099999999999999999999.00", "-0999999999999.00", "99999999999999999999.000", "99999999999999999999.x0",
		strings.Repeat("0", 1000) + "1.00", strings.Repeat("9", 100000), strings.Repeat("9", 100000) + ".0", "1" + strings.Repeat(".00", 1000), strings.Repeat("-", 1000) + "1.00",
	}
}

// P2.1, B5: what has not the form is refused for that, however great the integer would be.
func TestParseForm(t *testing.T) {
	for _, s := range noTexts() {
		if n, e := money.Parse(s); n != 0 || e != api.ErrForm {
			t.Errorf("Parse(%.40q): %d, %v", s, n, e)
		}
	}
}

// P2.1, B5: what has the form, but for an integer beyond the limits.
func TestParseRange(t *testing.T) {
	for _, s := range []string{
		"10000000.01", "-10000000.01", "10000001.00", "-99999999.99", "20000000.00", "100000000.00", "21474836.48", "42949672.96", "42949673.01",
		"92233720368547758.07", "92233720368547758.08", "-92233720368547758.08", "-92233720368547758.09", "184467440737095516.16", "184467440737095516.17", "-184467440737095516.17",
		"99999999999999999999.00", "-99999999999999999999.99", strings.Repeat("9", 100000) + ".00", "-1" + strings.Repeat("0", 100000) + ".00",
	} {
		if n, e := money.Parse(s); n != 0 || e != api.ErrRange {
			t.Errorf("Parse(%.40q): %d, %v", s, n, e)
		}
	}
}

// permute calls a function with each order of a list.
func permute(l []int, do func(l []int)) {
	if len(l) == 0 {
		do(nil)
		return
	}
	for i, first := range l {
		permute(slices.Concat(l[:i], l[i+1:]), func(rest []int) { do(append([]int{first}, rest...)) })
	}
}

// P2.2: the order plays no part, also where the sum of some is no amount; and an amount and the negative one add up to 0.
func TestSums(t *testing.T) {
	for _, l := range [][]int{
		{1, -2, 3, 5}, {most, most, -most, -1}, {most, 1, -most, -1, 0}, {most, -1, most}, {most, most, -most, 1}, {-most, -most, most, -1, most},
		{most, most + 1, most}, {-most, -1, math.MaxInt}, {math.MinInt, most, most, -most}, {most, math.MaxInt, math.MinInt},
	} {
		want, f := money.Add(l...)
		permute(l, func(l []int) {
			if n, e := money.Add(l...); n != want || e != f {
				t.Errorf("Add of %v: %d, %v; in another order %d, %v", l, n, e, want, f)
			}
		})
	}
	for _, cents := range amounts() {
		if n, e := money.Add(cents, -cents); n != 0 || e != api.OK {
			t.Errorf("Add(%d, %d): %d, %v", cents, -cents, n, e)
		}
		if n, e := money.Add(cents); n != cents || e != api.OK {
			t.Errorf("Add(%d): %d, %v", cents, n, e)
		}
	}
}

// P2.3: half a cent at most is rounded away or lost, of two equally near amounts the one further from 0 is taken; the sign plays no part.
func TestRounding(t *testing.T) {
	half := big.NewRat(1, 2)
	halves := 0
	for _, cents := range amounts() {
		for _, r := range numbers() {
			n, isAmount := mustScale(t, cents, r)
			v := exact(cents, r.N, r.D)
			if isAmount {
				apart := distance(whole(n), v).Cmp(half)
				if apart > 0 || apart == 0 && whole(n).Abs(whole(n)).Cmp(new(big.Rat).Abs(v)) < 0 {
					t.Errorf("Scale(%d, %v): %d", cents, r, n)
				}
				if apart == 0 {
					halves++
				}
			}
			if m, ok := mustScale(t, -cents, r); m != -n || ok != isAmount {
				t.Errorf("Scale(%d, %v): %d, %v; of the negative amount %d, %v", cents, r, n, isAmount, m, ok)
			}
			if m, ok := mustScale(t, cents, api.Rat{N: -r.N, D: r.D}); m != -n || ok != isAmount {
				t.Errorf("Scale(%d, %v): %d, %v; by the negative number %d, %v", cents, r, n, isAmount, m, ok)
			}
		}
		if n, e := money.Scale(cents, api.Rat{N: 1, D: 1}); n != cents || e != api.OK {
			t.Errorf("Scale(%d, 1): %d, %v", cents, n, e)
		}
	}
	if halves < 100 {
		t.Errorf("only %d halves", halves)
	}
}

// P2.4: a greater amount is not scaled to a smaller one, unless by a negative number.
func TestOrder(t *testing.T) {
	sorted := amounts()
	slices.Sort(sorted)
	for _, r := range numbers() {
		if r.N < 0 {
			continue
		}
		last, isFirst := 0, true
		for _, cents := range sorted {
			n, isAmount := mustScale(t, cents, r)
			if !isAmount {
				continue
			}
			if !isFirst && n < last {
				t.Errorf("Scale(%d, %v): %d; a smaller amount is scaled to %d", cents, r, n, last)
			}
			last, isFirst = n, false
		}
	}
}

// P2.7: each amount has one string, which is read as that amount.
func TestTextAndParse(t *testing.T) {
	check := func(cents int) {
		s, e := money.Text(cents)
		if e != api.OK || !isText(s) {
			t.Fatalf("Text(%d): %q, %v", cents, s, e)
		}
		if n, e := money.Parse(s); n != cents || e != api.OK {
			t.Errorf("Parse(%q): %d, %v; want %d", s, n, e, cents)
		}
	}
	for cents := -12000; cents <= 12000; cents++ {
		check(cents)
	}
	for _, cents := range amounts() {
		check(cents)
	}
	for cents := -most; cents <= most; cents += 99991 {
		check(cents)
	}
}

// form is that of B4, and of -0.00, which no amount has.
var form = regexp.MustCompile(`\A-?(0|[1-9][0-9]*)\.[0-9][0-9]\z`)

// isText reports whether a string has the form of B4 for some integer.
func isText(s string) bool { return form.MatchString(s) && s != "-0.00" }

// P2.7: each string of up to 6 of these signs is refused, or is the string of its amount.
func TestParseAll(t *testing.T) {
	const signs = "-+.019 "
	texts, accepted := []string{""}, 0
	for range 6 {
		var longer []string
		for _, s := range texts {
			for i := range len(signs) {
				longer = append(longer, s+signs[i:i+1])
			}
		}
		for _, s := range longer {
			n, e := money.Parse(s)
			if isText(s) != (e == api.OK) || e != api.OK && (e != api.ErrForm || n != 0) {
				t.Errorf("Parse(%q): %d, %v", s, n, e)
			}
			if e != api.OK || !isText(s) {
				continue
			}
			accepted++
			v, _ := new(big.Rat).SetString(s)
			if back, f := money.Text(n); back != s || f != api.OK || v.Cmp(big.NewRat(int64(n), 100)) != 0 {
				t.Errorf("Parse(%q): %d, whose text is %q, %v", s, n, back, f)
			}
		}
		texts = longer
	}
	if accepted < 300 {
		t.Errorf("only %d strings are accepted", accepted)
	}
}

// P2.1 and P1: integers that are no amounts, and numbers that are none, are refused before all else.
func TestErrArg(t *testing.T) {
	for _, bad := range noAmounts() {
		for _, other := range append(amounts(), noAmounts()...) {
			if n, e := money.Add(bad, other); n != 0 || e != api.ErrArg {
				t.Errorf("Add(%d, %d): %d, %v", bad, other, n, e)
			}
			if n, e := money.Add(other, most, most, bad); n != 0 || e != api.ErrArg {
				t.Errorf("Add(%d, most, most, %d): %d, %v", other, bad, n, e)
			}
		}
		for _, r := range append(numbers(), noNumbers()...) {
			if n, e := money.Scale(bad, r); n != 0 || e != api.ErrArg {
				t.Errorf("Scale(%d, %v): %d, %v", bad, r, n, e)
			}
		}
		if s, e := money.Text(bad); s != "" || e != api.ErrArg {
			t.Errorf("Text(%d): %q, %v", bad, s, e)
		}
	}
	for _, bad := range noNumbers() {
		for _, cents := range amounts() {
			if n, e := money.Scale(cents, bad); n != 0 || e != api.ErrArg {
				t.Errorf("Scale(%d, %v): %d, %v", cents, bad, n, e)
			}
		}
	}
}

// P1: all calls with integers of every size return, have zero values beside an error, and return the same again.
func TestEveryArgument(t *testing.T) {
	all := append(amounts(), noAmounts()...)
	for _, a := range all {
		for _, b := range all {
			n, e := money.Add(a, b)
			m, f := money.Add(a, b)
			if n != m || e != f || e != api.OK && n != 0 || e == api.OK && n != a+b {
				t.Errorf("Add(%d, %d): %d, %v and then %d, %v", a, b, n, e, m, f)
			}
			for _, d := range []int{0, 1, -1, 2, most, most + 1, math.MaxInt, math.MinInt} {
				r := api.Rat{N: b, D: d}
				n, e := money.Scale(a, r)
				m, f := money.Scale(a, r)
				if n != m || e != f || e != api.OK && n != 0 {
					t.Errorf("Scale(%d, %v): %d, %v and then %d, %v", a, r, n, e, m, f)
				}
			}
		}
		n, e := money.Parse(strconv.Itoa(a))
		if n != 0 || e != api.ErrForm {
			t.Errorf("Parse of %d without a point: %d, %v", a, n, e)
		}
	}
}
