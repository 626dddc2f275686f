package rational_test

import (
	"math"
	"math/big"
	"strconv"
	"strings"
	"testing"

	"cohousing/api"
	"cohousing/rational"
)

const most = api.MaxRat

var half, third, zero, one = api.Rat{N: 1, D: 2}, api.Rat{N: 1, D: 3}, api.Rat{D: 1}, api.Rat{N: 1, D: 1}

// operation is one of the four operations, with what package big has for it.
type operation struct {
	name  string
	run   func(a, b api.Rat) (api.Rat, api.Errno)
	exact func(z, a, b *big.Rat) *big.Rat
}

func operations() []operation {
	return []operation{
		{"Add", rational.Add, (*big.Rat).Add},
		{"Sub", rational.Sub, (*big.Rat).Sub},
		{"Mul", rational.Mul, (*big.Rat).Mul},
		{"Div", rational.Div, (*big.Rat).Quo},
	}
}

// value is that of a number in package big.
func value(r api.Rat) *big.Rat { return big.NewRat(int64(r.N), int64(r.D)) }

// number is what has this value, and OK, or else ErrRange.
func number(v *big.Rat) (api.Rat, api.Errno) {
	limit := big.NewInt(most)
	if v.Num().CmpAbs(limit) > 0 || v.Denom().Cmp(limit) > 0 {
		return api.Rat{}, api.ErrRange
	}
	return api.Rat{N: int(v.Num().Int64()), D: int(v.Denom().Int64())}, api.OK
}

// edgeInts are ints around 0, the limits, and the ends of their type.
func edgeInts() []int {
	return []int{
		0, 1, -1, 2, -2, 3, -4, 6, -6, 7, 12, 30, -35, 97, 99991, -44721359,
		most/2 - 1, most / 2, most - 1, most, most + 1, -most + 1, -most, -most - 1,
		2 * most, -2 * most, 2 * (most + 2), 6 * most, most * most, -most * most,
		433494437, 701408733, 7540113804746346429, 4660046610375530309,
		math.MaxInt, math.MaxInt - 1, math.MinInt, math.MinInt + 1, 1 << 62, -1 << 62,
	}
}

// numbers are the values of pairs of edge ints, as far as they are numbers, and all small ones.
func numbers() []api.Rat {
	var all []api.Rat
	seen := map[api.Rat]bool{}
	collect := func(n, d int) {
		r, e := number(big.NewRat(int64(n), int64(d)))
		if e == api.OK && !seen[r] {
			seen[r] = true
			all = append(all, r)
		}
	}
	for n := -4; n <= 4; n++ {
		for d := 1; d <= 4; d++ {
			collect(n, d)
		}
	}
	for _, n := range edgeInts() {
		for _, d := range edgeInts() {
			if d != 0 {
				collect(n, d)
			}
		}
	}
	return all
}

// fewNumbers are small ones, and some at each limit, for laws of three numbers.
func fewNumbers() []api.Rat {
	few := []api.Rat{zero, one, half, third, {N: -1, D: 1}, {N: -3, D: 2}, {N: 5, D: 6}, {N: 7, D: 1}}
	return append(few, api.Rat{N: most, D: 1}, api.Rat{N: -most, D: 1}, api.Rat{N: most - 1, D: 1}, api.Rat{N: 1, D: most},
		api.Rat{N: -1, D: most}, api.Rat{N: most, D: most - 1}, api.Rat{N: 1 - most, D: most}, api.Rat{N: 99991, D: 31607})
}

// noNumbers are not reduced, or beyond a limit.
func noNumbers() []api.Rat {
	bad := []api.Rat{
		{}, {N: 1}, {N: 0, D: 2}, {N: 0, D: most}, {N: 2, D: 4}, {N: -3, D: 6}, {N: most, D: most}, {N: most, D: 2}, {N: 1, D: -1}, {N: -1, D: -2}, {N: 0, D: -1},
		{N: most + 1, D: 1}, {N: -most - 1, D: 1}, {N: 1, D: most + 1}, {N: most + 1, D: most + 2},
	}
	for _, n := range []int{math.MinInt, math.MinInt + 1, math.MaxInt} {
		bad = append(bad, api.Rat{N: n, D: 1}, api.Rat{N: 1, D: n}, api.Rat{N: n, D: n}, api.Rat{N: 0, D: n}, api.Rat{N: n})
	}
	return bad
}

// must returns the result of a call that has no error.
func must[T any](t *testing.T) func(r T, e api.Errno) T {
	return func(r T, e api.Errno) T {
		t.Helper()
		if e != api.OK {
			t.Fatalf("%v", e)
		}
		return r
	}
}

// P1.1, A1.
func TestValid(t *testing.T) {
	for n := -20; n <= 20; n++ {
		for d := -3; d <= 20; d++ {
			want := d >= 1 && value(api.Rat{N: n, D: d}).Denom().Int64() == int64(d)
			if got := rational.Valid(api.Rat{N: n, D: d}); got != want {
				t.Errorf("Valid of %d/%d: %v", n, d, got)
			}
		}
	}
	for _, r := range numbers() {
		if !rational.Valid(r) {
			t.Errorf("Valid of %v: false", r)
		}
	}
	for _, r := range noNumbers() {
		if rational.Valid(r) {
			t.Errorf("Valid of %v: true", r)
		}
	}
}

// P1.1, A2.
func TestMake(t *testing.T) {
	if r, e := rational.Make(6, -4); r != (api.Rat{N: -3, D: 2}) || e != api.OK {
		t.Errorf("Make(6, -4): %v, %v", r, e)
	}
	for _, n := range edgeInts() {
		for _, d := range edgeInts() {
			want, f := api.Rat{}, api.ErrZero
			if d != 0 {
				want, f = number(big.NewRat(int64(n), int64(d)))
			}
			if r, e := rational.Make(n, d); r != want || e != f {
				t.Errorf("Make(%d, %d): %v, %v; want %v, %v", n, d, r, e, want, f)
			}
		}
	}
}

// P1.1, A3.
func TestOperations(t *testing.T) {
	if r, e := rational.Add(half, third); r != (api.Rat{N: 5, D: 6}) || e != api.OK {
		t.Errorf("Add(1/2, 1/3): %v, %v", r, e)
	}
	if r, e := rational.Mul(api.Rat{N: most, D: 1}, api.Rat{N: 2, D: 1}); r != (api.Rat{}) || e != api.ErrRange {
		t.Errorf("Mul(1000000000, 2): %v, %v", r, e)
	}
	all := numbers()
	for _, o := range operations() {
		for _, a := range all {
			for _, b := range all {
				want, f := api.Rat{}, api.ErrZero
				if o.name != "Div" || b != zero {
					want, f = number(o.exact(new(big.Rat), value(a), value(b)))
				}
				if r, e := o.run(a, b); r != want || e != f {
					t.Errorf("%s(%v, %v): %v, %v; want %v, %v", o.name, a, b, r, e, want, f)
				}
			}
		}
	}
}

// P1.1, A4.
func TestCompare(t *testing.T) {
	all := numbers()
	for _, a := range all {
		for _, b := range all {
			if n, e := rational.Compare(a, b); n != value(a).Cmp(value(b)) || e != api.OK {
				t.Errorf("Compare(%v, %v): %d, %v", a, b, n, e)
			}
		}
	}
}

// P1.1, A5.
func TestFloor(t *testing.T) {
	for _, x := range []struct {
		a    api.Rat
		want int
	}{
		{api.Rat{N: -3, D: 2}, -2}, {api.Rat{N: 3, D: 2}, 1}, {zero, 0}, {api.Rat{N: -4, D: 1}, -4}, {api.Rat{N: 4, D: 1}, 4},
		{api.Rat{N: -1, D: most}, -1}, {api.Rat{N: 1, D: most}, 0}, {api.Rat{N: most - 1, D: most}, 0}, {api.Rat{N: 1 - most, D: most}, -1},
		{api.Rat{N: most, D: most - 1}, 1}, {api.Rat{N: -most, D: most - 1}, -2}, {api.Rat{N: -most, D: 1}, -most}, {api.Rat{N: most, D: 1}, most},
	} {
		if n, e := rational.Floor(x.a); n != x.want || e != api.OK {
			t.Errorf("Floor of %v: %d, %v", x.a, n, e)
		}
	}
}

// P1.1, A6.
func TestText(t *testing.T) {
	for _, x := range []struct {
		a    api.Rat
		want string
	}{
		{api.Rat{N: -3, D: 4}, "-3/4"}, {api.Rat{N: 5, D: 1}, "5"}, {zero, "0"}, {api.Rat{N: -7, D: 1}, "-7"}, {api.Rat{N: 10, D: 3}, "10/3"},
		{api.Rat{N: most, D: 1}, "1000000000"}, {api.Rat{N: -most, D: most - 1}, "-1000000000/999999999"}, {api.Rat{N: 1, D: most}, "1/1000000000"},
	} {
		if s, e := rational.Text(x.a); s != x.want || e != api.OK {
			t.Errorf("Text of %v: %q, %v", x.a, s, e)
		}
		if r, e := rational.Parse(x.want); r != x.a || e != api.OK {
			t.Errorf("Parse of %q: %v, %v", x.want, r, e)
		}
	}
}

// noTexts are like texts of numbers, but no number has them.
func noTexts() []string {
	return []string{
		"", "-", "--1", "+", "+1", "-0", "+0", "00", "01", "-01", "0001/2", "1/02", "1/+2", "1/-2", "-1/-2", "1/1", "5/1", "0/1", "0/2", "-0/2", "6/4", "2/4", "-2/2", "1/0", "0/0",
		"/", "1/", "/2", "-/2", "1//2", "1/2/3", "1/2/", " 1", "1 ", "1\n", "\t1", "1 /2", "1/ 2", "1_0", "1_000/3", "0x10", "0b1", "0o7", "1e3", "1.5", "1,5", "a", "1a", "- 1", "−1", "1⁄2", "１", "٣",
		"1000000001", "-1000000001", "1/1000000001", "1000000001/1000000002", "2000000000/2", "9223372036854775807", "-9223372036854775808", "9223372036854775808", "1/9223372036854775808",
		"18446744073709551617", "1/18446744073709551618", "99999999999999999999999999", "1\x00", "\x001", "1/2\x00", "\xff", "NaN", "Inf", strings.Repeat("0", 1000) + "1", strings.Repeat("9", 100000), "1" + strings.Repeat("/2", 1000),
	}
}

// P1.1, A7.
func TestParseRefuses(t *testing.T) {
	for _, s := range noTexts() {
		if r, e := rational.Parse(s); r != (api.Rat{}) || e != api.ErrForm {
			t.Errorf("Parse of %.40q: %v, %v", s, r, e)
		}
	}
}

// P1.1: arguments that are no numbers are refused before all else, as in Div of what is no number by 0.
func TestErrArg(t *testing.T) {
	for _, bad := range noNumbers() {
		for _, other := range append(noNumbers(), zero, half, api.Rat{N: most, D: 1}) {
			for _, o := range operations() {
				if r, e := o.run(bad, other); r != (api.Rat{}) || e != api.ErrArg {
					t.Errorf("%s(%v, %v): %v, %v", o.name, bad, other, r, e)
				}
				if r, e := o.run(other, bad); r != (api.Rat{}) || e != api.ErrArg {
					t.Errorf("%s(%v, %v): %v, %v", o.name, other, bad, r, e)
				}
			}
			if n, e := rational.Compare(bad, other); n != 0 || e != api.ErrArg {
				t.Errorf("Compare(%v, %v): %d, %v", bad, other, n, e)
			}
			if n, e := rational.Compare(other, bad); n != 0 || e != api.ErrArg {
				t.Errorf("Compare(%v, %v): %d, %v", other, bad, n, e)
			}
		}
		if n, e := rational.Floor(bad); n != 0 || e != api.ErrArg {
			t.Errorf("Floor of %v: %d, %v", bad, n, e)
		}
		if s, e := rational.Text(bad); s != "" || e != api.ErrArg {
			t.Errorf("Text of %v: %q, %v", bad, s, e)
		}
	}
}

// P1.2: one value has one number, whatever it is multiplied by above and below the line.
func TestReduced(t *testing.T) {
	for _, n := range edgeInts() {
		for _, d := range edgeInts() {
			r, e := rational.Make(n, d)
			if e == api.OK && (!rational.Valid(r) || value(r).Cmp(big.NewRat(int64(n), int64(d))) != 0) {
				t.Errorf("Make(%d, %d): %v", n, d, r)
			}
			for _, k := range edgeInts() {
				if k == 0 || !fits(n, k) || !fits(d, k) {
					continue
				}
				if s, f := rational.Make(n*k, d*k); s != r || f != e {
					t.Errorf("Make(%d, %d): %v, %v; Make(%d, %d): %v, %v", n, d, r, e, n*k, d*k, s, f)
				}
			}
		}
	}
}

// fits reports whether a product is an int.
func fits(a, b int) bool {
	return new(big.Int).Mul(big.NewInt(int64(a)), big.NewInt(int64(b))).IsInt64()
}

// P1.3 and P1.4: Add and Mul are commutative, also in what they refuse; Sub undoes Add, and Div undoes Mul.
func TestInverses(t *testing.T) {
	all := numbers()
	for _, a := range all {
		for _, b := range all {
			sum, e := rational.Add(a, b)
			if r, f := rational.Add(b, a); r != sum || f != e {
				t.Errorf("Add(%v, %v): %v, %v; the other way round: %v, %v", a, b, sum, e, r, f)
			}
			if e == api.OK {
				if r, f := rational.Sub(sum, b); r != a || f != api.OK {
					t.Errorf("Sub(%v, %v): %v, %v; want %v", sum, b, r, f, a)
				}
			}
			product, e := rational.Mul(a, b)
			if r, f := rational.Mul(b, a); r != product || f != e {
				t.Errorf("Mul(%v, %v): %v, %v; the other way round: %v, %v", a, b, product, e, r, f)
			}
			if e == api.OK && b != zero {
				if r, f := rational.Div(product, b); r != a || f != api.OK {
					t.Errorf("Div(%v, %v): %v, %v; want %v", product, b, r, f, a)
				}
			}
		}
	}
}

// grouped checks that (a b) c is a (b c) where all four results are numbers, and reports whether they are.
func grouped(t *testing.T, o operation, a, b, c api.Rat) bool {
	t.Helper()
	ab, e1 := o.run(a, b)
	bc, e2 := o.run(b, c)
	if e1 != api.OK || e2 != api.OK {
		return false
	}
	left, e1 := o.run(ab, c)
	right, e2 := o.run(a, bc)
	if e1 != api.OK || e2 != api.OK {
		return false
	}
	if left != right {
		t.Errorf("%s of %v, %v, %v: %v and %v", o.name, a, b, c, left, right)
	}
	return true
}

// P1.3 and P1.4: Add and Mul are associative.
func TestAssociative(t *testing.T) {
	for _, o := range operations() {
		if o.name != "Add" && o.name != "Mul" {
			continue
		}
		count := 0
		for _, a := range fewNumbers() {
			for _, b := range fewNumbers() {
				for _, c := range fewNumbers() {
					if grouped(t, o, a, b, c) {
						count++
					}
				}
			}
		}
		if count < 500 {
			t.Errorf("%s: only %d triples have four results", o.name, count)
		}
	}
}

// P1.4: Mul distributes over Add.
func TestDistributive(t *testing.T) {
	count := 0
	for _, a := range fewNumbers() {
		for _, b := range fewNumbers() {
			for _, c := range fewNumbers() {
				sum, e1 := rational.Add(b, c)
				ab, e2 := rational.Mul(a, b)
				ac, e3 := rational.Mul(a, c)
				if e1 != api.OK || e2 != api.OK || e3 != api.OK {
					continue
				}
				left, e1 := rational.Mul(a, sum)
				right, e2 := rational.Add(ab, ac)
				if left != right || e1 != e2 {
					t.Errorf("%v times the sum of %v, %v: %v, %v and %v, %v", a, b, c, left, e1, right, e2)
				}
				count++
			}
		}
	}
	if count < 500 {
		t.Errorf("only %d triples have all results", count)
	}
}

// P1.5: for two numbers just one of before, same and after holds, and the same only for a number and itself; it is the sign of their difference.
func TestOrderOfTwo(t *testing.T) {
	compare := must[int](t)
	all := numbers()
	for _, a := range all {
		for _, b := range all {
			n := compare(rational.Compare(a, b))
			if n != -compare(rational.Compare(b, a)) || (n == 0) != (a == b) {
				t.Errorf("Compare(%v, %v): %d", a, b, n)
			}
			difference, e := rational.Sub(a, b)
			if e == api.OK && n != compare(rational.Compare(difference, zero)) {
				t.Errorf("Compare(%v, %v): %d; their difference is %v", a, b, n, difference)
			}
		}
	}
}

// P1.5: the order is transitive, and sums keep it.
func TestOrderOfThree(t *testing.T) {
	compare := must[int](t)
	for _, a := range fewNumbers() {
		for _, b := range fewNumbers() {
			n := compare(rational.Compare(a, b))
			for _, c := range fewNumbers() {
				if n <= 0 && compare(rational.Compare(b, c)) <= 0 && compare(rational.Compare(a, c)) > 0 {
					t.Errorf("%v, %v, %v are in order, but the first and the last are not", a, b, c)
				}
				ac, e1 := rational.Add(a, c)
				bc, e2 := rational.Add(b, c)
				if e1 == api.OK && e2 == api.OK && compare(rational.Compare(ac, bc)) != n {
					t.Errorf("%v added to %v, %v changes their order", c, a, b)
				}
			}
		}
	}
}

// P1.6: a number less its floor is from 0 to below 1.
func TestFloorBelow(t *testing.T) {
	for _, a := range numbers() {
		n := must[int](t)(rational.Floor(a))
		rest := new(big.Rat).Sub(value(a), new(big.Rat).SetInt64(int64(n)))
		if rest.Sign() < 0 || rest.Cmp(value(one)) >= 0 {
			t.Errorf("Floor of %v: %d", a, n)
		}
		whole := must[api.Rat](t)(rational.Make(n, 1))
		if r, e := rational.Sub(a, whole); e == api.OK && value(r).Cmp(rest) != 0 {
			t.Errorf("%v less %d: %v", a, n, r)
		}
	}
}

// P1.7: the number of a text is the one that has it.
func TestTextAndParse(t *testing.T) {
	seen := map[string]api.Rat{}
	for _, a := range numbers() {
		s := must[string](t)(rational.Text(a))
		if other, twice := seen[s]; twice {
			t.Errorf("%q is the text of %v and %v", s, a, other)
		}
		seen[s] = a
		if r, e := rational.Parse(s); r != a || e != api.OK {
			t.Errorf("Parse of %q: %v, %v; want %v", s, r, e, a)
		}
	}
}

// P1.7: each text of up to 5 of these signs is refused, or is the text of its number.
func TestParseAll(t *testing.T) {
	const signs = "-+/0124 "
	texts, accepted := []string{""}, 0
	for range 5 {
		var longer []string
		for _, s := range texts {
			for i := range len(signs) {
				longer = append(longer, s+signs[i:i+1])
			}
		}
		for _, s := range longer {
			r, e := rational.Parse(s)
			if e == api.OK {
				accepted++
			}
			back, f := rational.Text(r)
			if e == api.OK && (back != s || f != api.OK) || e != api.OK && (e != api.ErrForm || r != (api.Rat{})) || (e == api.OK) != isText(s) {
				t.Errorf("Parse of %q: %v, %v; its text is %q", s, r, e, back)
			}
		}
		texts = longer
	}
	if accepted < 500 {
		t.Errorf("only %d texts are accepted", accepted)
	}
}

// isText reports whether package big reads a string as a number and writes it in the same way.
func isText(s string) bool {
	v, ok := new(big.Rat).SetString(s)
	if !ok || strings.Trim(s, "-/0124") != "" {
		return false
	}
	if v.IsInt() {
		return s == v.Num().String()
	}
	return s == v.Num().String()+"/"+strconv.FormatInt(v.Denom().Int64(), 10)
}

// P1: all calls return for all arguments, and have zero values beside an error.
func TestEveryArgument(t *testing.T) {
	ints := edgeInts()
	var all []api.Rat
	for _, n := range ints {
		for _, d := range ints {
			all = append(all, api.Rat{N: n, D: d})
		}
	}
	for i, a := range all {
		n, e := rational.Floor(a)
		s, f := rational.Text(a)
		if e != api.OK && n != 0 || f != api.OK && s != "" || (e == api.OK) != rational.Valid(a) || f != e {
			t.Errorf("%v: Floor %d, %v; Text %q, %v", a, n, e, s, f)
		}
		for j := i % 7; j < len(all); j += 7 {
			b := all[j]
			for _, o := range operations() {
				r, e := o.run(a, b)
				if e != api.OK && r != (api.Rat{}) || e == api.OK && !rational.Valid(r) {
					t.Errorf("%s(%v, %v): %v, %v", o.name, a, b, r, e)
				}
				if again, f := o.run(a, b); again != r || f != e {
					t.Errorf("%s(%v, %v): %v, %v and then %v, %v", o.name, a, b, r, e, again, f)
				}
			}
			if n, e := rational.Compare(a, b); e != api.OK && n != 0 {
				t.Errorf("Compare(%v, %v): %d, %v", a, b, n, e)
			}
		}
	}
}
