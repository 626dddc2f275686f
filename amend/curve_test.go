package amend_test

import (
	"fmt"
	"math"
	"testing"

	"cohousing/api"
)

// overX are by-laws with one fact, x, and one right or charge.
func overX(lo, hi int, kind, rest string) api.Codex {
	return laws(fmt.Sprintf("fact x: number %d to %d; %s r 1 from 0 known 0 %s;", lo, hi, kind, rest))
}

// expectRight expects the curve of what a right gives by x.
func expectRight(t *testing.T, lo, hi int, gift, want string) {
	t.Helper()
	expectCurve(t, overX(lo, hi, "right", "give "+gift), 0, 0, []int{lo}, want)
}

// P15.1: the pieces of curves from 0 on.
func TestPieces(t *testing.T) {
	for _, x := range []struct {
		hi         int
		gift, want string
	}{
		{5, "0.07 money", "0: 7 0"},
		{5, "x * 0.01 money", "0: 0 1"},
		{5, "(3 - x) * 0.02 money", "0: 6 -2"},
		{0, "x * 0.01 money + 0.03 money", "0: 3 0"},
		{1, "x * 0.01 money + 0.03 money", "0: 3 1"},
		// Jumps, and turns without a jump.
		{4, "if x < 2 then 0.01 money else 0.05 money", "0: 1 0; 2: 5 0"},
		{4, "max(x, 2) * 0.01 money", "0: 2 0; 3: 3 1"},
		{4, "min(x, 2) * 0.01 money", "0: 0 1; 3: 2 0"},
		{5, "if x < 3 then x * 0.01 money else x * 0.03 money", "0: 0 1; 3: 9 3"},
		{5, "if x < 3 then x * 0.01 money else (6 - x) * 0.01 money", "0: 0 1; 4: 2 -1"},
		// A piece that begins at Hi has no slope.
		{4, "if x < 4 then x * 0.01 money else 0.09 money", "0: 0 1; 4: 9 0"},
		{4, "if x < 4 then x * 0.01 money else 0.04 money", "0: 0 1"},
		{4, "if x < 4 then 0.03 money else 0.04 money", "0: 3 0; 4: 4 0"},
		// The slope comes from the next value, although it is not on a line with those behind it.
		{4, "if x = 1 or x = 3 then 0.01 money else 0 money", "0: 0 1; 2: 0 1; 4: 0 0"},
		{5, "if x = 1 or x = 3 then 0.01 money else 0 money", "0: 0 1; 2: 0 1; 4: 0 0"},
		{3, "if x = 2 then 0.05 money else x * 0.01 money", "0: 0 1; 2: 5 -2"},
		{4, "if x = 2 then 0.05 money else x * 0.01 money", "0: 0 1; 2: 5 -2; 4: 4 0"},
		{5, "if x = 2 then 0.05 money else x * 0.01 money", "0: 0 1; 2: 5 -2; 4: 4 1"},
		{7, "x * x * 0.01 money", "0: 0 1; 2: 4 5; 4: 16 9; 6: 36 13"},
		{6, "x * x * 0.01 money", "0: 0 1; 2: 4 5; 4: 16 9; 6: 36 0"},
		// Fractions of a cent.
		{3, "x * 0.01 money / 3", "0: 0 1/3"},
		{4, "if x < 3 then 0.01 money / 2 else x * 0.05 money / 2 - 0.01 money / 3", "0: 1/2 0; 3: 43/6 5/2"},
		{4, "0.12 money / (x + 1)", "0: 12 -6; 2: 4 -1; 4: 12/5 0"},
	} {
		expectRight(t, 0, x.hi, x.gift, x.want)
	}
}

// P15.1: a fact that begins above 0 has a piece without a slope before it, which takes the place of the first piece if this has no slope either.
func TestAboveZero(t *testing.T) {
	for _, x := range []struct {
		lo, hi     int
		gift, want string
	}{
		{2, 5, "0.07 money", "0: 7 0"},
		{2, 5, "x * 0.01 money", "0: 2 0; 2: 2 1"},
		{1, 5, "(7 - x) * 0.02 money", "0: 12 0; 1: 12 -2"},
		{4, 4, "x * 0.01 money", "0: 4 0"},
		{1, 1, "x * 0.01 money", "0: 1 0"},
		{3, 4, "x * 0.01 money", "0: 3 0; 3: 3 1"},
		{3, 4, "0.05 money", "0: 5 0"},
		{3, 6, "max(x, 4) * 0.01 money", "0: 4 0; 5: 5 1"},
		{3, 6, "max(x, 5) * 0.01 money", "0: 5 0; 6: 6 0"},
		{3, 7, "if x = 3 then 0 money else x * 0.01 money", "0: 0 0; 3: 0 4; 5: 5 1"},
		{3, 7, "if x < 5 then 0 money else x * 0.01 money", "0: 0 0; 5: 5 1"},
		{1, 5, "if x = 2 or x = 4 then 0.01 money else 0 money", "0: 0 0; 1: 0 1; 3: 0 1; 5: 0 0"},
		{99999, 100000, "x * 0.01 money", "0: 99999 0; 99999: 99999 1"},
		{100000, 100000, "x * 0.01 money", "0: 100000 0"},
		{99998, 100000, "if x < 100000 then 0 money else 0.02 money", "0: 0 0; 100000: 2 0"},
	} {
		expectRight(t, x.lo, x.hi, x.gift, x.want)
	}
}

// P15.1: a charge gives the negative of what a right gives; both give 0 where their condition does not hold, and then the gift has no error.
func TestConditions(t *testing.T) {
	for _, x := range [][3]string{
		{"give x * 0.02 money", "0: 0 2", "0: 0 -2"},
		{"give 0.02 money - x * 0.01 money", "0: 2 -1", "0: -2 1"},
		{"when x > 2 give 0.05 money", "0: 0 0; 3: 5 0", "0: 0 0; 3: -5 0"},
		{"when x <= 2 give (x + 1) * 0.01 money", "0: 1 1; 3: 0 0", "0: -1 -1; 3: 0 0"},
		{"when x < 0 give 1 money / 0", "0: 0 0", "0: 0 0"},
		{"when not true give 1 money / 0", "0: 0 0", "0: 0 0"},
		{"when x != 2 give 0.06 money / (x - 2)", "0: -3 -3; 2: 0 6; 4: 3 -1", "0: 3 3; 2: 0 -6; 4: -3 1"},
		{"give 0 money", "0: 0 0", "0: 0 0"},
		{"give 0.06 money / (x - 2)", "error 7", "error 7"},
		{"when 1 / (x - 2) < 1 give 0 money", "error 7", "error 7"},
		{"when x * 999999999 > 0 give 0 money", "error 3", "error 3"},
		{"give x * 4000000 money", "error 3", "error 3"},
	} {
		for i, kind := range []string{"right", "charge"} {
			expectCurve(t, overX(0, 5, kind, x[0]), 0, 0, []int{3}, x[1+i])
		}
	}
}

// P15.1: each fact of the house, also flags, for several households.
func TestFacts(t *testing.T) {
	c := house(
		"duty a 1 about x from 0 known 0;",
		"right b 1 from 9 until 10 known 36524 when p or k > 2 give k * m + d / 1 days * 0.10 money;",
		"charge c 1 from 0 known 0 give m;",
		"right b 2 from 9 known 36524 give if p then m else k * 0.01 money;",
	)
	for _, x := range []struct {
		rule, fact int
		values     []int
		want       string
	}{
		{1, 0, []int{0, 4, 6, 3}, "0: 72 0"},
		{1, 0, []int{0, 2, 6, 3}, "0: 0 66"},
		{1, 0, []int{1, 2, 7, 4}, "0: 0 78"},
		{1, 1, []int{0, 0, 6, 3}, "0: 0 0; 3: 69 3"},
		{1, 1, []int{1, 4, 6, 3}, "0: 60 3"},
		{1, 2, []int{1, 4, 6, 3}, "0: 62 0; 5: 62 10"},
		{1, 2, []int{0, 2, 6, 3}, "0: 0 0"},
		{1, 3, []int{1, 4, 5, 2}, "0: 58 0; 2: 58 4"},
		{2, 3, []int{0, 0, 5, 4}, "0: -2 0; 2: -2 -1"},
		{2, 2, []int{0, 0, 5, 4}, "0: -4 0"},
		{3, 0, []int{1, 3, 5, 4}, "0: 3 1"},
		{3, 0, []int{1, 4, 5, 2}, "0: 4 -2"},
		{3, 1, []int{1, 4, 5, 2}, "0: 2 0"},
		{3, 1, []int{0, 4, 5, 2}, "0: 0 1"},
		{0, 1, []int{0, 4, 5, 2}, "error 1"},
	} {
		expectCurve(t, c, x.rule, x.fact, x.values, x.want)
	}
}

// P15.1: the error of the least value of the fact that has one, whichever it is, also where other values come first in another sense.
func TestErrorsOfValues(t *testing.T) {
	zero, large := "1 money / 0", "9000000 money * 2"
	for _, x := range [][3]string{
		{"if x < 3 then 1 money else if x = 3 then " + zero + " else " + large, "error 7"},
		{"if x < 3 then 1 money else if x = 3 then " + large + " else " + zero, "error 3"},
		{"if x < 5 then 1 money else " + zero, "error 7"},
		{"if x < 5 then 1 money else " + large, "error 3"},
		{"if x > 0 then 1 money else " + zero, "error 7"},
		{"if x > 0 then 1 money else " + large, "error 3"},
		{"if x > 0 then " + large + " else " + zero, "error 7"},
		{"if x > 0 then " + zero + " else " + large, "error 3"},
	} {
		expectRight(t, 0, 5, x[0], x[1])
		// The household itself has no error, and another one does not matter.
		expectCurve(t, overX(0, 5, "charge", "give "+x[0]), 0, 0, []int{1}, x[1])
	}
	c := laws("fact x: number 0 to 5; fact y: number 0 to 5; right r 1 from 0 known 0 give 0.06 money / (y - 2);")
	expectCurve(t, c, 0, 0, []int{1, 2}, "error 7")
	expectCurve(t, c, 0, 0, []int{1, 3}, "0: 6 0")
	expectCurve(t, c, 0, 1, []int{1, 3}, "error 7")
}

// P15.1: the bound of a fact comes before errors of values, these before differences that are no numbers, these before the number of pieces, and that before the limits of pieces.
func TestOrderOfErrors(t *testing.T) {
	zero, most := "1 money / 0", "10000000 money"
	for _, x := range []struct {
		lo, hi     int
		gift, want string
	}{
		{100000, 100000, zero, "error 7"},
		{100000, 100001, zero, "error 3"},
		{100001, 100001, zero, "error 3"},
		{100001, 100001, "1 money", "error 3"},
		{1000000, 1000000, "1 money", "error 3"},
		{0, 2, "if x < 1 then 0 money - " + most + " else if x < 2 then " + most + " else " + zero, "error 7"},
		{0, 2, "if x < 1 then 0 money - " + most + " else " + most, "error 3"},
		// Each of both pieces is all right here: only the step between them is no number.
		{0, 5, "if x < 5 then 0 money - " + most + " else " + most, "error 3"},
		{0, 5, "if x < 2 then " + most + " else 0.01 money - " + most, "error 3"},
		{0, 5, "if x < 5 then 0 money else " + most, "0: 0 0; 5: 1000000000 0"},
		{0, 5, "if x < 2 then " + most + " else 0 money", "0: 1000000000 0; 2: 0 0"},
		{0, 5, "if x > 0 then 0 money - " + most + " else 0 money", "error 3"},
		{0, 200, "if x < 200 then x * x * 0.01 money - " + most + " else " + most, "error 3"},
		{0, 200, "x * x * 0.01 money / 101", "error 2"},
		{0, 200, "x * x * 200 money", "error 2"},
		{0, 20, "x * x * 0.01 money / 101", "error 3"},
	} {
		expectRight(t, x.lo, x.hi, x.gift, x.want)
	}
}

// P15.1: at most 64 pieces, that before the fact among them.
func TestNumberOfPieces(t *testing.T) {
	for _, x := range []struct {
		lo, hi int
		gift   string
		pieces int
	}{
		{0, 126, "x * x * 0.01 money", 64},
		{0, 127, "x * x * 0.01 money", 64},
		{0, 128, "x * x * 0.01 money", 65},
		{0, 4000, "x * x * 0.01 money", 2001},
		{1, 126, "x * x * 0.01 money", 64},
		{1, 127, "x * x * 0.01 money", 65},
		{1, 127, "max(x, 2) * max(x, 2) * 0.01 money", 64},
		{1, 128, "max(x, 2) * max(x, 2) * 0.01 money", 64},
		{1, 129, "max(x, 2) * max(x, 2) * 0.01 money", 65},
	} {
		c := overX(x.lo, x.hi, "charge", "give "+x.gift)
		got, e := wantedCurve(c, 0, 0, []int{x.lo})
		if x.pieces <= 64 && (len(got) != x.pieces || e != api.OK) {
			t.Errorf("%d to %d: %d pieces, %v", x.lo, x.hi, len(got), e)
		}
		want := curveText(got, e)
		if x.pieces > 64 {
			want = "error 2"
		}
		expectCurve(t, c, 0, 0, []int{x.lo}, want)
	}
}

// P15.1: values and slopes are held against the limits of pieces.
func TestLimitsOfPieces(t *testing.T) {
	for gift, want := range map[string]string{
		"x * 0.01 money / 100":                           "0: 0 1/100",
		"x * 0.01 money / 101":                           "error 3",
		"x * 0.02 money / 202":                           "error 3",
		"x * 0.02 money / 200":                           "0: 0 1/100",
		"0.01 money / 100":                               "0: 1/100 0",
		"0.01 money / 101":                               "error 3",
		"0.01 money - 0.03 money / 100":                  "0: 97/100 0",
		"x * 0.01 money + 0.01 money / 101":              "error 3",
		"if x = 0 then 0 money else 0.01 money / 101":    "error 3",
		"if x = 4 then 0.01 money / 101 else 0 money":    "error 3",
		"if x = 3 then 0.01 money / 101 else 0 money":    "error 3",
		"if x = 3 then 0.01 money / 100 else 0 money":    "0: 0 0; 3: 1/100 -1/100",
		"x * 1000 money":                                 "0: 0 100000",
		"x * 1000.01 money":                              "error 3",
		"0 money - x * 1000 money":                       "0: 0 -100000",
		"0 money - x * 1000.01 money":                    "error 3",
		"x * 1999.98 money / 2":                          "0: 0 99999",
		"x * 999.99 money / 2":                           "0: 0 99999/2",
		"x * 1000.01 money / 2":                          "error 3",
		"10000000 money":                                 "0: 1000000000 0",
		"10000000 money - x * 0.01 money":                "0: 1000000000 -1",
		"10000000 money / 3":                             "0: 1000000000/3 0",
		"if x < 4 then 5 money else 9000000 money":       "0: 500 0; 4: 900000000 0",
		"if x < 3 then 5 money else 9000000 money":       "0: 500 0; 3: 900000000 0",
		"if x < 1 then 5 money else 9000000 money":       "error 3",
		"if x = 0 then 5 money else x * 0.01 money / 50": "0: 500 -24999/50; 2: 1/25 1/50",
	} {
		expectRight(t, 0, 4, gift, want)
	}
}

// P15.1: what is refused: by-laws that are not valid, other kinds of rules, indexes that there are not, and values of no household.
func TestCurveRefused(t *testing.T) {
	right := func() api.Codex {
		return house("right a 1 from 0 known 0 give m;", "charge b 1 from 0 known 0 give m;", "duty c 1 about x from 0 known 0;", "ban d 1 about x from 0 known 0;",
			"rooms e 1 from 0 known 0 give k;", "vote f 1 about x from 0 known 0 give k;", "notice g 1 about x from 0 known 0 give d;")
	}
	values := []int{0, 4, 5, 2}
	expectCurve(t, right(), 0, 3, values, "0: 2 0; 2: 2 1")
	expectCurve(t, right(), 1, 0, values, "0: -2 0")
	for _, rule := range []int{2, 3, 4, 5, 6, 7, 8, 100, -1, -2, math.MinInt, math.MaxInt} {
		expectCurve(t, right(), rule, 3, values, "error 1")
	}
	for _, fact := range []int{4, 5, 12, 100, -1, -2, math.MinInt, math.MaxInt} {
		expectCurve(t, right(), 0, fact, values, "error 1")
	}
	for _, others := range [][]int{nil, {}, {0, 4, 5}, {0, 4, 5, 2, 2}, {2, 4, 5, 2}, {-1, 4, 5, 2}, {0, 5, 5, 2}, {0, -1, 5, 2}, {0, 4, 4, 2}, {0, 4, 8, 2}, {0, 4, 5, 1}, {0, 4, 5, 5}, {math.MinInt, 4, 5, math.MaxInt}} {
		for fact := range 4 {
			expectCurve(t, right(), 0, fact, others, "error 1")
		}
	}
	for _, change := range wrong() {
		c := right()
		change(&c)
		expectCurve(t, c, 0, 3, values, "error 1")
	}
	expectCurve(t, api.Codex{}, 0, 0, nil, "error 1")
	expectCurve(t, laws("right a 1 from 0 known 0 give 1 money;"), 0, 0, nil, "error 1")
	expectCurve(t, house(), 0, 0, values, "error 1")
	// ErrArg comes before the bound of a fact, and before an error of a value.
	c := laws("fact x: number 100001 to 100001; right a 1 from 0 known 0 give 1 money / 0; duty b 1 about x from 0 known 0;")
	expectCurve(t, c, 0, 0, []int{100001}, "error 3")
	expectCurve(t, c, 0, 0, []int{100000}, "error 1")
	expectCurve(t, c, 0, 0, nil, "error 1")
	expectCurve(t, c, 0, 1, []int{100001}, "error 1")
	expectCurve(t, c, 1, 0, []int{100001}, "error 1")
	expectCurve(t, c, 2, 0, []int{100001}, "error 1")
}

// wrong are changes of by-laws of the house with seven rules, by each of which they are not valid.
func wrong() []func(c *api.Codex) {
	return []func(c *api.Codex){
		func(c *api.Codex) { c.Decls[0].Hi = 2 },
		func(c *api.Codex) { c.Decls[1].Lo = 5 },
		func(c *api.Codex) { c.Decls[1].Hi = 4096 },
		func(c *api.Codex) { c.Decls[1].Name = "p" },
		func(c *api.Codex) { c.Decls[1].Name = "" },
		func(c *api.Codex) { c.Decls[3].Unit = api.Unit{} },
		func(c *api.Codex) { c.Rules[1].Version = 2 },
		func(c *api.Codex) { c.Rules[1].Name = "a" },
		func(c *api.Codex) { c.Rules[2].Kind = 8 },
		func(c *api.Codex) { c.Rules[0].Act = "x" },
		func(c *api.Codex) { c.Rules[2].Days.Until = 0 },
		func(c *api.Codex) { c.Rules[2].Known = 36525 },
		func(c *api.Codex) { c.Rules[0].When.Op = 0 },
		func(c *api.Codex) { c.Rules[0].Give.Name = "unknown" },
		func(c *api.Codex) { c.Rules[0].Give.Name = "k" },
		func(c *api.Codex) { c.Rules[6].Give.Name = "m" },
	}
}
