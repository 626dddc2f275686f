package conflict_test

import (
	"fmt"
	"testing"

	"cohousing/api"
)

// P14.1: a duty and a ban about the same act contradict each other, and no other kinds of rules, two duties, two bans, or other acts do.
func TestKindsAndActs(t *testing.T) {
	always := map[int]string{
		api.RuleCharge: "charge a%d 1 from 0 known 0 give 1 money;",
		api.RuleRight:  "right a%d 1 from 0 known 0 give 1 money;",
		api.RuleDuty:   "duty a%d 1 about x from 0 known 0;",
		api.RuleBan:    "ban a%d 1 about x from 0 known 0;",
		api.RuleRooms:  "rooms a%d 1 from 0 known 0 give 1;",
		api.RuleVote:   "vote a%d 1 about x from 0 known 0 give 1;",
		api.RuleNotice: "notice a%d 1 about x from 0 known 0 give 1 days;",
	}
	for one := range always {
		for two := range always {
			c := house(fmt.Sprintf(always[one], 1), fmt.Sprintf(always[two], 2))
			var want []string
			if one == api.RuleDuty && two == api.RuleBan {
				want = append(want, "0 and 1 on 0 for [0 0 5 0]")
			}
			if one == api.RuleBan && two == api.RuleDuty {
				want = append(want, "1 and 0 on 0 for [0 0 5 0]")
			}
			expectClashes(t, c, 0, want...)
		}
	}
	for _, act := range []string{"xx", "y", "x1", "a1", "a2"} {
		expectClashes(t, house("duty a1 1 about x from 0 known 0;", "ban a2 1 about "+act+" from 0 known 0;"), 0)
		expectClashes(t, house("duty a1 1 about "+act+" from 0 known 0;", "ban a2 1 about x from 0 known 0;"), 0)
		expectClashes(t, house("duty a1 1 about "+act+" from 0 known 0;", "ban a2 1 about "+act+" from 0 known 0;"), 0, "0 and 1 on 0 for [0 0 5 0]")
	}
}

// P14.1 and P14.4: the first common day of two rules, which is the later one of their first days, if the other one is in force then.
func TestCommonDays(t *testing.T) {
	spans := [][2]int{{0, 1}, {0, 2}, {1, 2}, {0, 36525}, {36524, 36525}, {5, 10}, {10, 15}, {9, 11}, {4, 5}, {6, 9}, {10, 36525}, {0, 36524}}
	for _, a := range spans {
		for _, b := range spans {
			c := house(
				fmt.Sprintf("duty a 1 about x from %d until %d known 0 when k = 1;", a[0], a[1]),
				fmt.Sprintf("ban b 1 about x from %d until %d known 0 when p;", b[0], b[1]),
			)
			var want []string
			if day := max(a[0], b[0]); day < min(a[1], b[1]) {
				want = append(want, fmt.Sprintf("0 and 1 on %d for [1 1 5 0]", day))
			}
			expectClashes(t, c, 0, want...)
			expectClashes(t, c, 36524, want...)
		}
	}
}

// P14.1: an earlier version is not in force on the days of a later one, and is so again behind them.
func TestVersions(t *testing.T) {
	c := house(
		"duty a 1 about x from 10 until 50 known 0;",
		"ban b 1 about x from 0 known 0;",
		"ban b 2 about x from 5 until 20 known 0;",
		"duty a 2 about x from 15 until 18 known 0 when k = 2;",
		"ban b 3 about x from 17 until 30 known 0 when p;",
	)
	c.Rules[2].When = api.Node{Op: api.OpNot, Kids: []api.Node{{Op: api.OpTrue}}}
	// Version 1 of the ban is in force up to day 4, and from day 30 on; version 2 for nobody from day 5 to 16, version 3 from day 17 to 29.
	expectClashes(t, c, 0,
		"0 and 1 on 30 for [0 0 5 0]",
		"0 and 4 on 18 for [1 0 5 0]",
		"3 and 4 on 17 for [1 2 5 0]",
	)
	// A later version that stands for an earlier one on all of its days.
	expectClashes(t, house(
		"duty a 1 about x from 3 until 10 known 0;",
		"ban b 1 about x from 0 known 0;",
		"duty a 2 about x from 3 until 10 known 0 when k = 7;",
	), 0)
	expectClashes(t, house(
		"duty a 1 about x from 3 until 10 known 0;",
		"ban b 1 about x from 0 known 0;",
		"duty a 2 about x from 4 until 10 known 0 when k = 7;",
	), 0, "0 and 1 on 3 for [0 0 5 0]")
	expectClashes(t, house(
		"duty a 1 about x from 3 until 10 known 0;",
		"ban b 1 about x from 0 known 0;",
		"ban b 2 about x from 0 until 9 known 0 when k = 7;",
	), 0, "0 and 1 on 9 for [0 0 5 0]")
}

// P14.1 and P14.7: what is not known yet does not matter, whichever the day is on which both rules are in force.
func TestKnowledge(t *testing.T) {
	c := house(
		"duty a 1 about x from 10 known 5;",
		"ban b 1 about x from 10 known 7;",
		"ban b 2 about x from 0 until 40 known 9 when k = 3;",
		"duty a 2 about x from 0 until 20 known 36524 when p;",
	)
	for _, known := range []int{0, 4, 5, 6} {
		expectClashes(t, c, known)
	}
	for _, known := range []int{7, 8} {
		expectClashes(t, c, known, "0 and 1 on 10 for [0 0 5 0]")
	}
	for _, known := range []int{9, 10, 40, 36523} {
		expectClashes(t, c, known, "0 and 1 on 40 for [0 0 5 0]", "0 and 2 on 10 for [0 3 5 0]")
	}
	expectClashes(t, c, 36524, "0 and 1 on 40 for [0 0 5 0]", "0 and 2 on 20 for [0 3 5 0]", "3 and 2 on 0 for [1 3 5 0]")
}

// P14.1 and P14.6: clashes come by the duty, and then by the ban, in the order of the by-laws, not in that of their days.
func TestOrder(t *testing.T) {
	c := house(
		"ban b 1 about x from 40 known 0;",
		"duty a 1 about x from 0 until 50 known 0;",
		"ban c 1 about x from 30 known 0;",
		"duty d 1 about x from 20 known 0;",
		"duty e 1 about y from 0 known 0;",
		"ban f 1 about x from 10 known 0;",
		"ban g 1 about y from 0 known 0;",
		"duty h 1 about x from 0 known 0;",
		"duty i 1 about z from 0 known 0;",
	)
	all := " for [0 0 5 0]"
	expectClashes(t, c, 0,
		"1 and 0 on 40"+all, "1 and 2 on 30"+all, "1 and 5 on 10"+all,
		"3 and 0 on 40"+all, "3 and 2 on 30"+all, "3 and 5 on 20"+all,
		"4 and 6 on 0"+all,
		"7 and 0 on 40"+all, "7 and 2 on 30"+all, "7 and 5 on 10"+all,
	)
}

// P14.1 and P14.4: the first household that both rules accept, by the first value, then by the second one, and so on.
func TestFirstHousehold(t *testing.T) {
	for _, x := range [][3]string{
		{"p", "true", "[1 0 5 0]"},
		{"true", "k > 1", "[0 2 5 0]"},
		{"k > 1", "k < 3", "[0 2 5 0]"},
		{"k > 1", "k < 2", ""},
		{"p", "not p", ""},
		{"p or k = 3", "k < 3 or d = 7 days", "[0 3 7 0]"},
		{"m = 0.02 money", "d > 5 days", "[0 0 6 2]"},
		{"m = 0.02 money and d = 7 days", "k = 3 and p", "[1 3 7 2]"},
		{"m * 1 > 0.01 money or p", "p or d * 2 >= 14 days", "[0 0 7 2]"},
		{"d / 5 days = 1", "m = k * 0.01 money and k > 0", "[0 1 5 1]"},
		{"m = k * 0.01 money", "d = k * 3 days and not (k = 2 and not p)", "[1 2 6 2]"},
		{"k = 4", "true", ""},
		{"true", "d < 5 days", ""},
	} {
		c := house("duty a 1 about x from 0 known 0 when "+x[0]+";", "ban b 1 about x from 7 known 0 when "+x[1]+";")
		turned := house("duty a 1 about x from 7 known 0 when "+x[1]+";", "ban b 1 about x from 0 known 0 when "+x[0]+";")
		var want []string
		if x[2] != "" {
			want = append(want, "0 and 1 on 7 for "+x[2])
		}
		expectClashes(t, c, 0, want...)
		expectClashes(t, turned, 0, want...)
	}
}

// P14.1: a rule does not accept a household for which its condition has an error; other households do not matter.
func TestErrorsInConditions(t *testing.T) {
	for _, x := range [][2]string{
		{"1 / k < 1", "[0 2 5 0]"},
		{"1 / k <= 1", "[0 1 5 0]"},
		{"1 / 0 < 1", ""},
		{"not (1 / 0 < 1)", ""},
		{"k * 999999999 * 2 > 0", ""},
		{"k * 999999999 < 5", "[0 0 5 0]"},
		{"k * 999999999 >= 0", "[0 0 5 0]"},
		{"k * 999999999 > 0", "[0 1 5 0]"},
		{"k = 2 or 1 / 0 < 1", "[0 2 5 0]"},
		{"1 / 0 < 1 or k = 2", ""},
		{"k = 2 and 1 / 0 < 1", ""},
		{"p and 1 / (3 - k) < 1", "[1 0 5 0]"},
		{"if k < 3 then 1 / 0 < 1 else p", "[1 3 5 0]"},
	} {
		c := house("duty a 1 about x from 0 known 0 when "+x[0]+";", "ban b 1 about x from 0 known 0;")
		turned := house("duty a 1 about x from 0 known 0;", "ban b 1 about x from 0 known 0 when "+x[0]+";")
		if x[1] == "" {
			expectClashes(t, c, 0)
			expectClashes(t, turned, 0)
			expectNever(t, c, 0)
			expectNever(t, turned, 1)
			continue
		}
		expectClashes(t, c, 0, "0 and 1 on 0 for "+x[1])
		expectClashes(t, turned, 0, "0 and 1 on 0 for "+x[1])
		expectNever(t, c)
		expectNever(t, turned)
	}
}

// P14.1: without declarations there is one household, with no values.
func TestNoFacts(t *testing.T) {
	c := laws("duty a 1 about x from 3 known 0;", "ban b 1 about x from 2 known 0 when 1 < 2;", "ban c 1 about x from 2 known 0 when 2 < 1;")
	expectClashes(t, c, 0, "0 and 1 on 3 for []")
	expectNever(t, c, 2)
}

// P14.1: each household, wherever its bit is, of as many households as there can be.
func TestEachHousehold(t *testing.T) {
	for _, x := range []struct {
		facts string
		sizes []int
	}{
		{"fact a: number 0 to 4095;", []int{4096}},
		{"fact a: number 0 to 63; fact b: number 0 to 63;", []int{64, 64}},
		{"fact a: number 0 to 2; fact b: number 0 to 4; fact c: number 0 to 8; fact d: number 0 to 8;", []int{3, 5, 9, 9}},
		{"fact z: number 4 to 4; fact a: number 7 to 71; fact y: money 8 to 8; fact b: number 3 to 64;", []int{1, 65, 1, 62}},
	} {
		c := laws(x.facts, "duty u 1 about x from 0 known 0;", "ban v 1 about x from 5 known 0;")
		count := 1
		for _, size := range x.sizes {
			count *= size
		}
		for _, number := range []int{0, 1, 2, 61, 62, 63, 64, 65, 127, 128, 191, 192, count / 2, count / 3, count - 129, count - 128, count - 66, count - 65, count - 64, count - 63, count - 2, count - 1} {
			when, want := api.Node{Op: api.OpTrue}, make([]int, len(c.Decls))
			for i, rest := len(want)-1, number; i >= 0; i-- {
				d := c.Decls[i]
				want[i] = d.Lo + rest%x.sizes[i]
				rest /= x.sizes[i]
				isValue := api.Node{Op: api.OpEq, Kids: []api.Node{{Op: api.OpFact, Name: d.Name}, {Op: api.OpNumber, N: api.Rat{N: want[i], D: 1}, Unit: d.Unit}}}
				when = api.Node{Op: api.OpAnd, Kids: []api.Node{when, isValue}}
			}
			c.Rules[number%2].When = when
			expectClashes(t, c, 0, fmt.Sprintf("0 and 1 on 5 for %v", want))
			c.Rules[number%2].When = api.Node{Op: api.OpTrue}
		}
	}
}

// P14.1: rules that are in force for households that differ in one fact only, when other facts are named by one of them alone.
func TestNamedFacts(t *testing.T) {
	facts := []string{"p", "k < 2", "d < 6 days", "m < 0.01 money"}
	for named := range 1 << len(facts) {
		whens := []string{"true", "true"}
		want := []int{0, 0, 5, 0}
		other := []int{1, 2, 6, 1}
		for i, condition := range facts {
			side := named >> i & 1
			if i > 0 {
				condition = "not (" + condition + ")"
			}
			whens[side] += " and " + condition
			want[i] = other[i]
		}
		expectClashes(t, house("duty a 1 about x from 0 known 0 when "+whens[0]+";", "ban b 1 about x from 0 known 0 when "+whens[1]+";"), 0, fmt.Sprintf("0 and 1 on 0 for %v", want))
	}
}
