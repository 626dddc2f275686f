package units_test

import (
	"math"
	"slices"
	"testing"

	"cohousing/api"
	"cohousing/units"
)

// declared is a declaration with bounds.
func declared(name string, unit api.Unit, lo, hi int) api.Decl {
	return api.Decl{Name: name, Unit: unit, Lo: lo, Hi: hi}
}

// expectFacts expects an error of each declaration, or OK; their offsets are set, and rules with errors stand behind them.
func expectFacts(t *testing.T, l []api.Decl, want ...api.Errno) {
	t.Helper()
	l = slices.Clone(l)
	var diags []api.Diag
	for i, e := range want {
		l[i].At = 7 * (len(want) - i)
		if e != api.OK {
			diags = append(diags, api.Diag{At: l[i].At, E: e})
		}
	}
	expect(t, api.Codex{Decls: l}, diags...)
	isRight := len(diags) == 0
	if got := units.Valid(l, yes()); got != isRight {
		t.Errorf("%v: got %v, want %v", l, got, isRight)
	}
	wrong := plain(api.RuleCharge)
	wrong.Version, wrong.When = 0, marked(fact("unknown"))
	if isRight {
		expectUnit(t, l, yes(), flag)
		expect(t, api.Codex{Decls: l, Rules: []api.Rule{wrong}}, api.Diag{At: atRule, E: api.ErrRange})
	} else {
		expectError(t, l, marked(fact("unknown")), api.ErrArg, 0)
		expect(t, api.Codex{Decls: l, Rules: []api.Rule{wrong}}, diags...)
	}
}

// P11.1: Lo and Hi at and beyond their bounds, for flags and for others.
func TestBounds(t *testing.T) {
	for _, unit := range basic() {
		for _, x := range []struct {
			lo, hi      int
			flag, other api.Errno
		}{
			{0, 0, api.OK, api.OK},
			{0, 1, api.OK, api.OK},
			{1, 1, api.OK, api.OK},
			{1, 0, api.ErrRange, api.ErrRange},
			{-1, 0, api.ErrRange, api.ErrRange},
			{-1, -1, api.ErrRange, api.ErrRange},
			{0, -1, api.ErrRange, api.ErrRange},
			{0, 2, api.ErrRange, api.OK},
			{1, 2, api.ErrRange, api.OK},
			{2, 2, api.ErrRange, api.OK},
			{3, 2, api.ErrRange, api.ErrRange},
			{0, 4095, api.ErrRange, api.OK},
			{0, 4096, api.ErrRange, api.ErrLimit},
			{1, 4096, api.ErrRange, api.OK},
			{1000000, 1000000, api.ErrRange, api.OK},
			{999999, 1000000, api.ErrRange, api.OK},
			{995905, 1000000, api.ErrRange, api.OK},
			{995904, 1000000, api.ErrRange, api.ErrLimit},
			{0, 1000000, api.ErrRange, api.ErrLimit},
			{1000000, 1000001, api.ErrRange, api.ErrRange},
			{1000001, 1000001, api.ErrRange, api.ErrRange},
			{1000000, 999999, api.ErrRange, api.ErrRange},
			{0, math.MaxInt, api.ErrRange, api.ErrRange},
			{math.MinInt, math.MaxInt, api.ErrRange, api.ErrRange},
			{math.MinInt, 0, api.ErrRange, api.ErrRange},
			{math.MaxInt, math.MinInt, api.ErrRange, api.ErrRange},
			{math.MaxInt, math.MaxInt, api.ErrRange, api.ErrRange},
			{1 << 32, 1<<32 + 1, api.ErrRange, api.ErrRange},
		} {
			want := x.other
			if unit.Flag {
				want = x.flag
			}
			expectFacts(t, []api.Decl{declared("b", unit, x.lo, x.hi)}, want)
			expectFacts(t, []api.Decl{declared("c", money, 5, 5), declared("b", unit, x.lo, x.hi), declared("e", flag, 0, 0)}, api.OK, want, afterLimit(want))
		}
	}
}

// afterLimit is the error of a declaration with one value behind another error: a product that is too large stays so.
func afterLimit(e api.Errno) api.Errno {
	if e == api.ErrLimit {
		return e
	}
	return api.OK
}

// P11.1: products of Hi - Lo + 1 of 4096 and just above.
func TestProducts(t *testing.T) {
	ok, limit := api.OK, api.ErrLimit
	expectFacts(t, []api.Decl{declared("b", pure, 0, 63), declared("c", money, 10, 73)}, ok, ok)
	expectFacts(t, []api.Decl{declared("b", pure, 0, 63), declared("c", money, 10, 74)}, ok, limit)
	expectFacts(t, []api.Decl{declared("b", pure, 0, 64), declared("c", money, 10, 73)}, ok, limit)
	expectFacts(t, []api.Decl{declared("b", area, 1, 4096), declared("c", flag, 1, 1), declared("e", flag, 0, 0)}, ok, ok, ok)
	expectFacts(t, []api.Decl{declared("b", area, 1, 4096), declared("c", flag, 1, 1), declared("e", flag, 0, 1), declared("g", flag, 1, 1)}, ok, ok, limit, limit)
	expectFacts(t, []api.Decl{declared("b", area, 0, 4096), declared("c", flag, 1, 1), declared("e", flag, 0, 1)}, limit, limit, limit)
	expectFacts(t, []api.Decl{declared("b", area, 5, 21), declared("c", length, 0, 240)}, ok, limit)
	expectFacts(t, []api.Decl{declared("b", area, 5, 21), declared("c", length, 0, 239), declared("e", length, 3, 3)}, ok, ok, ok)
	var flags []api.Decl
	var oks []api.Errno
	for i := range 12 {
		flags = append(flags, declared("f"+string(rune('a'+i)), flag, 0, 1))
		oks = append(oks, ok)
	}
	expectFacts(t, flags, oks...)
	flags[11] = declared("b", pure, 0, 2)
	oks[11] = limit
	expectFacts(t, flags, oks...)
}

// P11.1: products that are no int, among them such whose lower bits are few.
func TestGreatProducts(t *testing.T) {
	for _, last := range []int{1000000, 999999, 524287, 262143, 65535, 16383, 8191, 4096} {
		var l []api.Decl
		var want []api.Errno
		for i := range 12 {
			l = append(l, declared("f"+string(rune('a'+i)), pure, 0, last))
			want = append(want, api.ErrLimit)
		}
		expectFacts(t, l, want...)
		l[0] = declared("b", flag, 0, 1)
		want[0] = api.OK
		expectFacts(t, l, want...)
		for i := range l {
			expectFacts(t, l[:i], want[:i]...)
		}
	}
}

// P11.1: declarations between whose bounds are not right do not count for the product; those with a name that is there already, or behind a product that is too large, do.
func TestProductsOfSome(t *testing.T) {
	ok, limit, out, twice := api.OK, api.ErrLimit, api.ErrRange, api.ErrTwice
	expectFacts(t, []api.Decl{declared("b", pure, 0, 63), declared("c", pure, 5, 4), declared("e", pure, 1, 64)}, ok, out, ok)
	expectFacts(t, []api.Decl{declared("b", pure, 0, 63), declared("c", pure, 0, 1000001), declared("e", pure, 1, 64), declared("g", flag, 0, 2), declared("h", flag, 0, 1)}, ok, out, ok, out, limit)
	expectFacts(t, []api.Decl{declared("b", flag, 0, 4096), declared("c", pure, -1, 4096), declared("e", pure, 1, 4096)}, out, out, ok)
	expectFacts(t, []api.Decl{declared("b", pure, math.MinInt, math.MaxInt), declared("e", pure, 1, 4096)}, out, ok)
	expectFacts(t, []api.Decl{declared("b", pure, 0, 63), declared("b", pure, 0, 63), declared("c", flag, 0, 0)}, ok, twice, ok)
	expectFacts(t, []api.Decl{declared("b", pure, 0, 63), declared("b", pure, 0, 63), declared("c", flag, 0, 1)}, ok, twice, limit)
	expectFacts(t, []api.Decl{declared("b", pure, 0, 63), declared("b", pure, 0, 64), declared("c", flag, 0, 0)}, ok, twice, limit)
	expectFacts(t, []api.Decl{declared("b", pure, 0, 63), declared("b", pure, -5, 64), declared("c", pure, 1, 64), declared("e", flag, 0, 1)}, ok, twice, ok, limit)
	expectFacts(t, []api.Decl{declared("b", pure, 0, 5000), declared("c", pure, 0, 0), declared("e", pure, 3, 2), declared("c", pure, 0, 0)}, limit, limit, out, twice)
}

// P11.1: names that are declared twice, and declarations to which several errors apply.
func TestTwice(t *testing.T) {
	ok, limit, out, twice := api.OK, api.ErrLimit, api.ErrRange, api.ErrTwice
	b := declared("b", pure, 0, 3)
	expectFacts(t, []api.Decl{b, b}, ok, twice)
	expectFacts(t, []api.Decl{b, b, b, b}, ok, twice, twice, twice)
	expectFacts(t, []api.Decl{b, declared("b", money, 1, 2)}, ok, twice)
	expectFacts(t, []api.Decl{b, declared("bb", pure, 0, 3), declared("b_", pure, 0, 3)}, ok, ok, ok)
	expectFacts(t, []api.Decl{b, declared("c", flag, 0, 1), b, declared("c", flag, 0, 0)}, ok, ok, twice, twice)
	expectFacts(t, []api.Decl{declared("b", pure, 3, 2), b}, out, twice)
	expectFacts(t, []api.Decl{b, declared("b", pure, 3, 2)}, ok, twice)
	expectFacts(t, []api.Decl{b, declared("b", flag, 0, 2)}, ok, twice)
	expectFacts(t, []api.Decl{declared("b", pure, 0, 4096), declared("b", pure, 0, 4096)}, limit, twice)
	expectFacts(t, []api.Decl{declared("b", pure, 0, 4096), declared("c", pure, 4, 3), declared("c", pure, 4, 3)}, limit, out, twice)
	twelve := slices.Repeat([]api.Decl{b}, 12)
	expectFacts(t, twelve, append([]api.Errno{ok}, slices.Repeat([]api.Errno{twice}, 11)...)...)
	for place := range 12 {
		l := slices.Repeat([]api.Decl{declared("c", pure, 1, 0)}, 12)
		want := slices.Repeat([]api.Errno{twice}, 12)
		want[0] = out
		l[place] = declared("e", flag, 0, 1)
		want[place] = ok
		if place == 0 {
			want[1] = out
		}
		expectFacts(t, l, want...)
	}
}
