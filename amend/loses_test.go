package amend_test

import (
	"fmt"
	"math"
	"strings"
	"testing"

	"cohousing/amend"
	"cohousing/api"
)

// P15.1 and P15.4: the first household that loses, by the first value, then by the second one, and so on.
func TestFirstHousehold(t *testing.T) {
	for _, x := range [][2]string{
		{"true", "[0 0 5 2]"},
		{"p", "[1 0 5 2]"},
		{"k > 1", "[0 2 5 2]"},
		{"d = 7 days", "[0 0 7 2]"},
		{"m > 0.03 money", "[0 0 5 4]"},
		{"p or k = 3", "[0 3 5 2]"},
		{"m = 0.04 money and d > 5 days", "[0 0 6 4]"},
		{"m = 0.04 money and d = 7 days and k = 4 and p", "[1 4 7 4]"},
		{"m = k * 0.01 money and k > 2", "[0 3 5 3]"},
	} {
		old, less, more := house(), house("charge a 1 from 0 known 0 when "+x[0]+" give 0.05 money;"), house("right a 1 from 0 known 0 when "+x[0]+" give 0.05 money;")
		expectLoss(t, old, less, 0, x[1]+" by a: -5, not 0")
		expectLoss(t, more, old, 0, x[1]+" by a: 0, not 5")
		expectLoss(t, more, less, 0, x[1]+" by a: -5, not 5")
		expectLoss(t, less, old, 0, "nobody")
		expectLoss(t, old, more, 0, "nobody")
		expectLoss(t, less, more, 0, "nobody")
	}
	expectLoss(t, house(), house("charge a 1 from 0 known 0 when k > 4 give 1 money;"), 0, "nobody")
	expectLoss(t, house(), house("charge a 1 from 0 known 0 give 0 money;"), 0, "nobody")
}

// P15.1: each household, of as many as there can be.
func TestEachHousehold(t *testing.T) {
	for _, x := range []struct {
		facts string
		sizes []int
	}{
		{"fact a: number 0 to 4095;", []int{4096}},
		{"fact a: number 7 to 70; fact b: number 0 to 63;", []int{64, 64}},
		{"fact a: number 0 to 2; fact b: number 3 to 7; fact c: number 0 to 8; fact d: number 1 to 9;", []int{3, 5, 9, 9}},
		{"fact z: number 4 to 4; fact a: number 7 to 71; fact y: number 8 to 8; fact b: number 3 to 64; fact x: number 999999 to 999999;", []int{1, 65, 1, 62, 1}},
	} {
		count := 1
		for _, size := range x.sizes {
			count *= size
		}
		for _, number := range []int{0, 1, 2, 62, 63, 64, 65, count / 2, count / 3, count - 66, count - 65, count - 64, count - 63, count - 2, count - 1} {
			old := laws(x.facts)
			want, conditions := make([]int, len(x.sizes)), make([]string, len(x.sizes))
			for i, rest := len(want)-1, number; i >= 0; i-- {
				want[i] = old.Decls[i].Lo + rest%x.sizes[i]
				rest /= x.sizes[i]
				conditions[i] = fmt.Sprintf("%s = %d", old.Decls[i].Name, want[i])
			}
			changed := laws(x.facts, "charge r 1 from 0 known 0 when "+strings.Join(conditions, " and ")+" give 1 money;")
			expectLoss(t, old, changed, 0, fmt.Sprintf("%v by r: -100, not 0", want))
			expectLoss(t, changed, old, 0, "nobody")
		}
	}
}

// P15.1: without declarations there is one household.
func TestNoFacts(t *testing.T) {
	old, changed := laws("charge a 1 from 0 known 0 give 1 money;"), laws("charge a 1 from 0 known 0 give 1.01 money;")
	expectLoss(t, old, changed, 5, "[] by a: -101, not -100")
	expectLoss(t, changed, old, 5, "nobody")
	expectLoss(t, api.Codex{}, changed, 5, "[] by a: -101, not 0")
	expectLoss(t, api.Codex{}, api.Codex{}, 5, "nobody")
	expectLoss(t, api.Codex{}, laws("charge a 1 from 0 known 0 give 1 money / 0;"), 5, "error 7")
}

// P15.1: what charges and rights give is added up, without rounding; other kinds of rules do not matter.
func TestSums(t *testing.T) {
	rights := []string{
		"right a 1 from 0 known 0 give 0.01 money / 3;",
		"right b 1 from 0 known 0 give 0.01 money / 3;",
		"right c 1 from 0 known 0 give 0.01 money / 3;",
		"charge d 1 from 0 known 0 when k < 2 give m;",
	}
	others := []string{
		"duty e 1 about x from 0 known 0;", "ban f 1 about x from 0 known 0;", "rooms g 1 from 0 known 0 give k / 0;",
		"vote h 1 about x from 0 known 0 give 1;", "notice i 1 about x from 0 known 0 when 1 / 0 < 1 give d;",
	}
	old := house(rights...)
	expectLoss(t, old, house(rights[1:]...), 0, "[0 0 5 2] by a: -4/3, not -1")
	expectLoss(t, old, house(rights[:3]...), 0, "nobody")
	expectLoss(t, old, house(strings.Join(rights, " "), "charge e 1 from 0 known 0 when k > 1 give 0.01 money / 1000000;"), 0, "[0 2 5 2] by e: 999999/1000000, not 1")
	for i := range others {
		expectLoss(t, old, house(strings.Join(rights, " "), others[i]), 0, "nobody")
		expectLoss(t, house(strings.Join(rights, " "), others[i]), old, 0, "nobody")
	}
	expectLoss(t, house(strings.Join(rights, " "), strings.Join(others, " ")), house(strings.Join(others, " "), rights[1], rights[2], rights[3]), 0, "[0 0 5 2] by a: -4/3, not -1")
	// What one name takes another one gives.
	expectLoss(t, house("charge a 1 from 0 known 0 give m;"), house("charge b 1 from 0 known 0 give m;"), 0, "nobody")
	expectLoss(t, house("charge a 1 from 0 known 0 give m;"), house("charge b 1 from 0 known 0 give k * 0.01 money;"), 0, "[0 3 5 2] by a: -3, not -2")
}

// P15.1: rules that are in force on the day, as known on the last day of all.
func TestDays(t *testing.T) {
	old := house("charge a 1 from 0 known 0 give 1 money;")
	changed := house("charge a 1 from 0 known 0 give 1 money;", "charge a 2 from 31 until 60 known 36524 when k = 3 give 2 money;", "right b 1 from 40 until 50 known 36524 give 0.50 money;", "charge c 1 from 36524 known 36523 give 3 money;")
	for day, want := range map[int]string{
		0: "nobody", 30: "nobody",
		31: "[0 3 5 2] by a: -200, not -100", 39: "[0 3 5 2] by a: -200, not -100",
		40: "[0 3 5 2] by a: -150, not -100", 49: "[0 3 5 2] by a: -150, not -100",
		50: "[0 3 5 2] by a: -200, not -100", 59: "[0 3 5 2] by a: -200, not -100",
		60: "nobody", 36523: "nobody",
		36524: "[0 0 5 2] by c: -400, not -100",
	} {
		expectLoss(t, old, changed, day, want)
	}
	expectLoss(t, changed, old, 31, "[0 0 5 2] by a: -100, not 0")
	expectLoss(t, changed, old, 45, "[0 0 5 2] by a: -100, not 50")
	expectLoss(t, changed, changed, 45, "nobody")
}

// P15.7: the first name by its bytes that gives something else, be it more or less, whatever the order of the rules is.
func TestNames(t *testing.T) {
	rule := func(kind, name, gift string) string {
		return fmt.Sprintf("%s %s 1 from 0 known 0 give %s;", kind, name, gift)
	}
	for _, x := range []struct {
		old, new []string
		want     string
	}{
		{nil, []string{rule("charge", "b", "1 money"), rule("charge", "a", "1 money")}, "a"},
		{nil, []string{rule("charge", "ab", "1 money"), rule("charge", "a", "1 money")}, "a"},
		{nil, []string{rule("charge", "a_", "1 money"), rule("charge", "aa", "1 money"), rule("charge", "a1", "1 money")}, "a1"},
		{nil, []string{rule("charge", "aa", "1 money"), rule("charge", "a_", "1 money")}, "a_"},
		{nil, []string{rule("charge", "b", "2 money"), rule("right", "a", "1 money")}, "a"},
		{nil, []string{rule("charge", "b", "2 money"), rule("right", "a", "0 money")}, "b"},
		{nil, []string{rule("charge", "b", "2 money"), rule("charge", "a", "m * 0")}, "b"},
		{[]string{rule("charge", "a", "0 money")}, []string{rule("charge", "b", "2 money")}, "b"},
		{[]string{rule("charge", "a", "1 money")}, []string{rule("charge", "b", "2 money")}, "a"},
		{[]string{rule("charge", "b", "1 money")}, []string{rule("charge", "a", "2 money")}, "a"},
		{[]string{rule("charge", "a", "1 money"), rule("right", "c", "1 money")}, []string{rule("charge", "a", "1 money"), rule("right", "c", "0.50 money")}, "c"},
		{[]string{rule("charge", "b", "1 money"), rule("right", "c", "1 money")}, []string{rule("right", "c", "0.50 money"), rule("charge", "b", "1 money")}, "c"},
		{[]string{rule("right", "a", "1 money"), rule("right", "b", "1 money")}, []string{rule("charge", "a", "1 money"), rule("right", "b", "1 money")}, "a"},
		{[]string{rule("right", "a", "0 money - 1 money"), rule("right", "b", "1 money")}, []string{rule("charge", "a", "1 money"), rule("right", "b", "0 money")}, "b"},
		{[]string{rule("right", "a", "1 money"), "duty b 1 about x from 0 known 0;"}, []string{rule("charge", "b", "1 money"), "duty a 1 about x from 0 known 0;"}, "a"},
		{[]string{"duty a 1 about x from 0 known 0;"}, []string{rule("charge", "b", "1 money"), "ban a 1 about x from 0 known 0;"}, "b"},
		// Of other households, days and versions other names may give something else.
		{nil, []string{"charge a 1 from 0 known 0 when k > 0 give 1 money;", rule("charge", "b", "1 money")}, "b"},
		{nil, []string{"charge a 1 from 1 known 0 give 1 money;", rule("charge", "b", "1 money")}, "b"},
		{nil, []string{rule("charge", "a", "1 money"), "charge a 2 from 0 known 0 give 0 money;", rule("charge", "b", "1 money")}, "b"},
		// The difference of what both give need be no number.
		{[]string{rule("right", "a", "10000000 money"), rule("charge", "b", "1 money")}, []string{rule("charge", "a", "10000000 money"), rule("right", "b", "2 money")}, "a"},
	} {
		old, changed := house(x.old...), house(x.new...)
		if got := lossText(amend.Loses(old, changed, 0)); !strings.HasPrefix(got, "[0 0 5 2] by "+x.want+": ") {
			t.Errorf("%s%sgot %s, want %s", shown(old), shown(changed), got, x.want)
		}
	}
}

// P15.1: errors of households up to the first one that loses, those of the old by-laws first, and those of their rules in order.
func TestErrorsOfHouseholds(t *testing.T) {
	at := func(name, condition, gift string) string {
		return fmt.Sprintf("right %s 1 from 0 known 0 when %s give %s;", name, condition, gift)
	}
	zero, large := "1 money / 0", "9000000 money * 2"
	loss := "charge x 1 from 0 known 0 when k > 1 give 1 money;"
	for _, x := range []struct {
		old, new []string
		want     string
	}{
		{[]string{at("a", "k = 0", zero)}, nil, "error 7"},
		{[]string{at("a", "k = 0", large)}, nil, "error 3"},
		{nil, []string{at("a", "k = 0", zero)}, "error 7"},
		{nil, []string{at("a", "k = 4 and p and m = 0.04 money and d = 7 days", large)}, "error 3"},
		{[]string{at("a", "k = 4 and p and m = 0.04 money and d = 7 days", zero)}, nil, "error 7"},
		{[]string{at("a", "k = 0", zero)}, []string{at("a", "k = 0", large)}, "error 7"},
		{[]string{at("a", "k = 0", large)}, []string{at("a", "k = 0", zero)}, "error 3"},
		{[]string{at("a", "k = 2", zero)}, []string{at("a", "k = 1", large)}, "error 3"},
		{[]string{at("a", "k = 2", large)}, []string{at("a", "k = 1", zero)}, "error 7"},
		{[]string{at("a", "k = 1", zero)}, []string{at("a", "k = 2", large)}, "error 7"},
		{[]string{at("a", "k = 0", zero), at("b", "k = 0", large)}, nil, "error 7"},
		{[]string{at("a", "k = 0", large), at("b", "k = 0", zero)}, nil, "error 3"},
		{[]string{at("b", "k = 0", large), at("a", "k = 0", zero)}, nil, "error 3"},
		{[]string{at("a", "k = 1", large), at("b", "k = 0", zero)}, nil, "error 7"},
		// The household with k = 2 loses: what comes behind it does not matter, but what it has itself does.
		{[]string{at("a", "k = 1", zero)}, []string{loss}, "error 7"},
		{[]string{at("a", "k = 2", zero)}, []string{loss}, "error 7"},
		{[]string{at("a", "k = 3", zero)}, []string{loss}, "[0 2 5 2] by x: -100, not 0"},
		{nil, []string{loss, at("a", "k = 1", large)}, "error 3"},
		{nil, []string{loss, at("a", "k = 2", large)}, "error 3"},
		{nil, []string{loss, at("a", "k = 3", large)}, "[0 2 5 2] by x: -100, not 0"},
		{nil, []string{loss, at("a", "p", large)}, "[0 2 5 2] by x: -100, not 0"},
		{nil, []string{loss, at("a", "k = 2 and m = 0.03 money", large)}, "[0 2 5 2] by x: -100, not 0"},
		// Errors of conditions, and gifts that are not computed.
		{nil, []string{at("a", "1 / k < 2", "m")}, "error 7"},
		{nil, []string{at("a", "k * 999999999 < 2", "m")}, "error 3"},
		{nil, []string{at("a", "k < 0", zero)}, "nobody"},
		{nil, []string{at("a", "k < 0 and 1 / 0 < 1", zero)}, "nobody"},
		{[]string{at("a", "k = 0", zero)}, []string{"right a 1 from 1 known 0 give " + large + ";"}, "error 7"},
		{nil, []string{"right a 1 from 1 known 0 give " + large + ";"}, "nobody"},
	} {
		expectLoss(t, house(x.old...), house(x.new...), 0, x.want)
	}
}

// P15.1: a sum on the way that is no number is an error, in the order of the rules.
func TestSumsOutOfRange(t *testing.T) {
	most := func(kind, name string) string { return kind + " " + name + " 1 from 0 known 0 give 10000000 money;" }
	cent := func(kind, name string) string { return kind + " " + name + " 1 from 0 known 0 give 0.01 money;" }
	broken := "right z 1 from 0 known 0 give 1 money / 0;"
	for _, x := range []struct {
		rules []string
		want  string
	}{
		{[]string{most("right", "a")}, "nobody"},
		{[]string{most("charge", "a")}, "[0 0 5 2] by a: -1000000000, not 0"},
		{[]string{most("right", "a"), cent("right", "b")}, "error 3"},
		{[]string{cent("right", "b"), most("right", "a")}, "error 3"},
		{[]string{most("charge", "a"), cent("charge", "b")}, "error 3"},
		{[]string{most("right", "a"), cent("charge", "b")}, "nobody"},
		{[]string{most("right", "a"), cent("charge", "b"), cent("right", "c")}, "nobody"},
		{[]string{most("right", "a"), cent("right", "b"), cent("charge", "c")}, "error 3"},
		{[]string{most("right", "a"), most("charge", "b"), most("charge", "c")}, "[0 0 5 2] by a: -1000000000, not 0"},
		{[]string{most("charge", "a"), most("charge", "b"), most("right", "c")}, "error 3"},
		{[]string{"right a 1 from 0 known 0 give 0.01 money / 99991;", "right b 1 from 0 known 0 give 0.01 money / 99989;"}, "error 3"},
		{[]string{"right a 1 from 0 known 0 give 0.01 money / 991;", "charge b 1 from 0 known 0 give 0.01 money / 989;"}, "[0 0 5 2] by a: -2/980099, not 0"},
		{[]string{most("right", "a"), cent("right", "b"), broken}, "error 3"},
		{[]string{most("right", "a"), broken, cent("right", "b")}, "error 7"},
	} {
		expectLoss(t, house(), house(x.rules...), 0, x.want)
		if strings.HasPrefix(x.want, "error") {
			expectLoss(t, house(x.rules...), house(), 0, x.want)
		}
	}
	// What both give may be further apart than numbers are.
	expectLoss(t, house(most("right", "a")), house(most("charge", "a")), 0, "[0 0 5 2] by a: -1000000000, not 1000000000")
	expectLoss(t, house(most("charge", "a")), house(most("right", "a")), 0, "nobody")
}

// P15.1: what is refused: by-laws that are not valid, other facts, and days that there are not.
func TestLosesRefused(t *testing.T) {
	right := func() api.Codex {
		return house("right a 1 from 0 known 0 give m;", "charge b 1 from 0 known 0 give m / 0;", "duty c 1 about x from 0 known 0;", "ban d 1 about x from 0 known 0;",
			"rooms e 1 from 0 known 0 give k;", "vote f 1 about x from 0 known 0 give k;", "notice g 1 about x from 0 known 0 give d;")
	}
	for day, want := range map[int]string{0: "error 7", 36524: "error 7", -1: "error 1", 36525: "error 1", 36526: "error 1", math.MinInt: "error 1", math.MaxInt: "error 1", 1 << 32: "error 1"} {
		expectLoss(t, right(), right(), day, want)
	}
	for _, change := range wrong() {
		c := right()
		change(&c)
		for _, day := range []int{0, -1} {
			expectLoss(t, c, right(), day, "error 1")
			expectLoss(t, right(), c, day, "error 1")
			expectLoss(t, c, c, day, "error 1")
		}
	}
	for _, change := range []func(l []api.Decl) []api.Decl{
		func(l []api.Decl) []api.Decl { l[1].Name = "kk"; return l },
		func(l []api.Decl) []api.Decl { l[1].Unit = api.Unit{Area: 1}; return l },
		func(l []api.Decl) []api.Decl { l[1].Lo = 1; return l },
		func(l []api.Decl) []api.Decl { l[1].Hi = 3; return l },
		func(l []api.Decl) []api.Decl { l[3].Hi = 5; return l },
		func(l []api.Decl) []api.Decl { l[0].Lo = 1; return l },
		func(l []api.Decl) []api.Decl { l[0], l[1] = l[1], l[0]; return l },
		func(l []api.Decl) []api.Decl { return l[:3] },
		func(l []api.Decl) []api.Decl { return append(l, api.Decl{Name: "z"}) },
		func(l []api.Decl) []api.Decl { return nil },
	} {
		c := house()
		c.Decls = change(c.Decls)
		expectLoss(t, house(), c, 0, "error 1")
		expectLoss(t, c, house(), 0, "error 1")
		expectLoss(t, c, c, 0, "nobody")
	}
	c := house("charge a 1 from 0 known 0 give 1 money;")
	for i := range c.Decls {
		c.Decls[i].At = i * 100
	}
	expectLoss(t, house(), c, 0, "[0 0 5 2] by a: -100, not 0")
	expectLoss(t, c, house(), 0, "nobody")
}
