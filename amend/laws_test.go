package amend_test

import (
	"fmt"
	"math/rand/v2"
	"slices"
	"testing"

	"cohousing/amend"
	"cohousing/api"
	"cohousing/piecewise"
)

// curveOf is a curve, which is held against that of the chapter.
func curveOf(t *testing.T, c api.Codex, rule, fact int, values []int) ([]api.Piece, api.Errno) {
	t.Helper()
	pieces, e := amend.Curve(c, rule, fact, values)
	if got, want := curveText(pieces, e), curveText(wantedCurve(c, rule, fact, values)); got != want {
		t.Fatalf("%srule %d, fact %d, %v: got %s, want %s", shown(c), rule, fact, values, got, want)
	}
	return pieces, e
}

// lossOf is a loss, which is held against that of the chapter.
func lossOf(t *testing.T, old, changed api.Codex, day int) (api.Loss, bool, api.Errno) {
	t.Helper()
	l, is, e := amend.Loses(old, changed, day)
	if got, want := lossText(l, is, e), lossText(wantedLoss(old, changed, day)); got != want {
		t.Fatalf("%s%son day %d: got %s, want %s", shown(old), shown(changed), day, got, want)
	}
	return l, is, e
}

// P15.1: curves by by-laws in which nothing is wrong.
func TestCurves(t *testing.T) {
	errors, pieces := map[api.Errno]int{}, map[int]int{}
	pairs(1500, false, func(r *rand.Rand, c, _ api.Codex, w window) {
		for range 4 {
			got, e := curveOf(t, c, anyIndex(r, len(c.Rules)), anyIndex(r, 4), anyHousehold(r, c.Decls))
			errors[e]++
			pieces[len(got)]++
		}
	})
	if errors[api.OK] < 1000 || errors[api.ErrArg] < 300 || errors[api.ErrRange] < 100 || errors[api.ErrZero] < 50 {
		t.Errorf("only few curves: %v", errors)
	}
	if pieces[1] < 1000 || pieces[2] < 400 || pieces[3] < 150 {
		t.Errorf("only few pieces: %v", pieces)
	}
}

// anyLine is an amount by the fact x, mostly on a line.
func anyLine(r *rand.Rand) string {
	return fmt.Sprintf(pick(r, "%d * 0.01 money", "x * %d * 0.01 money", "(x - %d) * 0.01 money", "(x + %d) * 0.01 money / 3", "x * 0.01 money + %d * 0 money"), r.IntN(5))
}

// P15.1: curves of a fact with many values, which turn and jump at some of them.
func TestLongCurves(t *testing.T) {
	errors, most := map[api.Errno]int{}, 0
	r := dice()
	for range 600 {
		lo, length := pick(r, 0, 0, 1, 100, 99500), 1+r.IntN(400)
		gift := pick(r, anyLine(r), anyLine(r), "x * x * 0.01 money")
		for range pick(r, 0, 1, 5, 16) {
			gift = fmt.Sprintf("if x %s %d then %s else %s", pick(r, "=", "<", "<"), lo+r.IntN(length), anyLine(r), gift)
		}
		pieces, e := curveOf(t, overX(lo, lo+length, pick(r, "right", "charge"), "give "+gift), 0, 0, []int{lo})
		errors[e]++
		most = max(most, len(pieces))
	}
	if errors[api.OK] < 300 || errors[api.ErrLimit] < 30 || errors[api.ErrRange] < 30 || most < 20 {
		t.Errorf("only few curves: %v, %d pieces", errors, most)
	}
}

// P15.1: losses by by-laws in which nothing is wrong.
func TestLosses(t *testing.T) {
	count := map[string]int{}
	pairs(2500, false, func(r *rand.Rand, old, changed api.Codex, w window) {
		_, is, e := lossOf(t, old, changed, w.day(r))
		count[fmt.Sprint(is, int(e))]++
	})
	if count["true 0"] < 500 || count["false 0"] < 500 || count["false 3"] < 100 || count["false 7"] < 100 {
		t.Errorf("only few losses: %v", count)
	}
}

// P1 and P15.1: any by-laws, indexes, values and days, also with expressions that contain themselves.
func TestAnyLaws(t *testing.T) {
	curves, losses := map[api.Errno]int{}, map[api.Errno]int{}
	pairs(4000, false, func(r *rand.Rand, old, changed api.Codex, w window) {
		old, changed = cloneLaws(old), cloneLaws(changed)
		for range pick(r, 0, 1, 1, 2) {
			spoil(r, pick(r, &old, &changed))
		}
		_, _, e := lossOf(t, old, changed, pick(r, w.day(r), w.day(r), anyInt(r)))
		losses[e]++
		values := anyHousehold(r, theFacts)
		if r.IntN(4) == 0 {
			values = pick(r, append(values, 0), values[:3], nil, []int{anyInt(r), anyInt(r), anyInt(r), anyInt(r)})
		}
		_, e = curveOf(t, old, anyIndex(r, len(old.Rules)), anyIndex(r, 4), values)
		curves[e]++
	})
	if losses[api.OK] < 1000 || losses[api.ErrArg] < 1000 || curves[api.OK] < 700 || curves[api.ErrArg] < 1000 {
		t.Errorf("only few results: %v, %v", losses, curves)
	}
}

// P15.2 and P15.3: a curve is a valid function that has what the rule gives at each value of the fact, and none of its pieces goes on with the line of the one before.
func TestCurveValues(t *testing.T) {
	count, continued := 0, 0
	pairs(800, false, func(r *rand.Rand, c, _ api.Codex, w window) {
		for rule, u := range c.Rules {
			fact, values := r.IntN(4), anyHousehold(r, c.Decls)
			pieces, e := amend.Curve(c, rule, fact, values)
			if e != api.OK {
				continue
			}
			if !piecewise.Valid(pieces) {
				t.Fatalf("%srule %d, fact %d, %v: %s", shown(c), rule, fact, values, curveText(pieces, e))
			}
			// The sum with 0 is reduced.
			reduced, f := piecewise.Add(pieces, []api.Piece{{Value: api.Rat{D: 1}, Slope: api.Rat{D: 1}}})
			if f != api.OK || !slices.Equal(reduced, pieces) {
				t.Fatalf("%srule %d, fact %d, %v: %s goes on", shown(c), rule, fact, values, curveText(pieces, e))
			}
			continued += len(pieces) - 1
			for x := c.Decls[fact].Lo; x <= c.Decls[fact].Hi; x++ {
				moved := slices.Clone(values)
				moved[fact] = x
				want, _ := gives(c.Decls, u, moved)
				got, f := piecewise.At(pieces, x)
				if f != api.OK || got != small(want) {
					t.Fatalf("%srule %d, fact %d, %v: %s at %d, want %v", shown(c), rule, fact, values, curveText(pieces, e), x, want)
				}
				count++
			}
		}
	})
	if count < 8000 || continued < 700 {
		t.Errorf("only %d values, %d pieces", count, continued)
	}
}

// P15.4 and P15.7: a household that is found gets less than before, no household before it does, and the name is the first one that gives it something else.
func TestSmallest(t *testing.T) {
	count, later := 0, 0
	pairs(1500, true, func(r *rand.Rand, old, changed api.Codex, w window) {
		day := w.day(r)
		l, is, e := amend.Loses(old, changed, day)
		if e != api.OK {
			t.Fatal(shown(old), shown(changed), day, e)
		}
		for _, values := range households(old.Decls) {
			was, before, _ := given(old, day, values)
			now, after, _ := given(changed, day, values)
			isLoser := is && slices.Equal(values, l.Case)
			if isLoser != (now.Cmp(was) < 0) {
				t.Fatalf("%s%son day %d: got %s, but %v gets %v, not %v", shown(old), shown(changed), day, lossText(l, is, e), values, now, was)
			}
			if !isLoser {
				later++
				continue
			}
			if small(was) != l.Old || small(now) != l.New || first(before, after) != l.Act {
				t.Fatalf("%s%son day %d: got %s", shown(old), shown(changed), day, lossText(l, is, e))
			}
			count++
			break
		}
	})
	if count < 500 || later < 20000 {
		t.Errorf("only %d losses, %d other households", count, later)
	}
}

// P15.5: if nobody is found, every household gets at least as much as before.
func TestNobody(t *testing.T) {
	count, more := 0, 0
	pairs(1000, true, func(r *rand.Rand, old, changed api.Codex, w window) {
		day := w.day(r)
		if _, is, e := amend.Loses(old, changed, day); is || e != api.OK {
			return
		}
		for _, values := range households(old.Decls) {
			was, _, _ := given(old, day, values)
			now, _, _ := given(changed, day, values)
			if now.Cmp(was) < 0 {
				t.Fatalf("%s%son day %d: %v gets %v, not %v", shown(old), shown(changed), day, values, now, was)
			}
			more += now.Cmp(was)
			count++
		}
	})
	if count < 20000 || more < 1000 {
		t.Errorf("only %d households, %d of which get more", count, more)
	}
}

// P15.6: nobody loses by by-laws that are the same, and if nobody loses by second ones, nor by third ones against these, nobody loses by the third ones against the first ones.
func TestChains(t *testing.T) {
	count := 0
	pairs(1000, true, func(r *rand.Rand, one, two api.Codex, w window) {
		day := w.day(r)
		expectLoss(t, one, one, day, "nobody")
		expectLoss(t, one, cloneLaws(one), day, "nobody")
		if _, is, _ := amend.Loses(one, two, day); is {
			return
		}
		for range 4 {
			three := amended(r, two, w, true)
			if _, is, _ := amend.Loses(two, three, day); !is {
				expectLoss(t, one, three, day, "nobody")
				count++
			}
		}
	})
	if count < 600 {
		t.Errorf("only %d chains", count)
	}
}

// P15.8: exchanging two neighbouring rules of different names changes nothing, as far as no sum is out of range.
func TestOrder(t *testing.T) {
	count := 0
	pairs(1500, true, func(r *rand.Rand, old, changed api.Codex, w window) {
		day := w.day(r)
		want := lossText(amend.Loses(old, changed, day))
		for _, c := range []*api.Codex{&old, &changed} {
			for i := 1; i < len(c.Rules); i++ {
				if c.Rules[i-1].Name == c.Rules[i].Name || r.IntN(4) == 0 {
					continue
				}
				*c = cloneLaws(*c)
				c.Rules[i-1], c.Rules[i] = c.Rules[i], c.Rules[i-1]
				count++
			}
		}
		expectLoss(t, old, changed, day, want)
	})
	if count < 3000 {
		t.Errorf("only %d exchanges", count)
	}
	// A sum that is out of range by one order alone.
	most, more, less := "right a 1 from 0 known 0 give 10000000 money;", "right b 1 from 0 known 0 give m;", "charge c 1 from 0 known 0 give m;"
	expectLoss(t, house(most, less, more), house(less, most, more), 0, "nobody")
	expectLoss(t, house(most, less, more), house(most, more, less), 0, "error 3")
}

// P15.8: curves do not depend on where their rule stands.
func TestOrderOfCurves(t *testing.T) {
	pairs(500, true, func(r *rand.Rand, c, _ api.Codex, w window) {
		for i := 1; i < len(c.Rules); i++ {
			if c.Rules[i-1].Name == c.Rules[i].Name {
				continue
			}
			turned := cloneLaws(c)
			turned.Rules[i-1], turned.Rules[i] = turned.Rules[i], turned.Rules[i-1]
			fact, values := r.IntN(4), anyHousehold(r, c.Decls)
			expectCurve(t, turned, i, fact, values, curveText(amend.Curve(c, i-1, fact, values)))
			expectCurve(t, turned, i-1, fact, values, curveText(amend.Curve(c, i, fact, values)))
		}
	})
}
