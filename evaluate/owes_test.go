package evaluate_test

import (
	"math"
	"slices"
	"strconv"
	"strings"
	"testing"
	"time"

	"cohousing/api"
	"cohousing/evaluate"
)

// firstDay is the first day of a month.
func firstDay(month int) int {
	first := time.Date(2000, time.January, 1, 0, 0, 0, 0, time.UTC)
	return int(first.AddDate(0, month, 0).Sub(first).Hours()) / 24
}

// always is a rule that is always in force, by its kind and name, and what it is for and gives.
func always(head, rest string) string { return head + " 1 from 0 known 0 " + rest + ";" }

// P13.1: in each month, charges and rights that are in force on its first day, and none that begin on the day behind it or end on it.
func TestMonths(t *testing.T) {
	for month := range 1200 {
		day := firstDay(month)
		span := func(from, until int) string {
			return " 1 from " + strconv.Itoa(from) + " until " + strconv.Itoa(until) + " known 0 give "
		}
		rules := []string{
			"charge a" + span(day, day+1) + "1 money;",
			"right b" + span(day, 36525) + "0.10 money;",
			"charge c" + span(day+1, day+20) + "2 money;",
			"right d" + span(day+1, 36525) + "3 money;",
		}
		want := "90: 0 1"
		if day > 0 {
			rules = append(rules, "charge e"+span(0, day)+"4 money;", "right f"+span(day-1, day)+"5 money;", "charge g"+span(day-1, day+1)+"0.01 money;")
			want = "91: 0 1 6"
		}
		expectOwes(t, bylaws(theHouse+strings.Join(rules, "\n")), month, want)
	}
}

// P13.1: months and days of knowledge at their bounds and beside them.
func TestMonthsAndKnown(t *testing.T) {
	c := laws(always("charge x", "give 1 money"))
	for _, month := range []int{0, 1, 1198, 1199, -1, 1200, math.MinInt, math.MaxInt} {
		for _, known := range []int{0, 1, 36523, 36524, -1, 36525, math.MinInt, math.MaxInt} {
			want := "100: 0"
			if month < 0 || month > 1199 || known < 0 || known > 36524 {
				want = "ErrRange"
			}
			if got := owesText(evaluate.Owes(c, month, known, tenant())); got != want {
				t.Errorf("month %d, known %d: got %q, want %q", month, known, got, want)
			}
		}
	}
}

// P13.1: what is owed as known on a day, whether this is before the month or behind it.
func TestOwesAsKnown(t *testing.T) {
	c := laws(
		"charge x 1 from 0 known 7 give 1 money;",
		"charge x 2 from 31 until 60 known 100 give 2 money;",
		"right y 1 from 31 known 36524 when p give 0.30 money;",
	)
	for _, month := range []int{0, 1, 2} {
		for known, want := range map[int][3]string{
			0:     {"0:", "0:", "0:"},
			6:     {"0:", "0:", "0:"},
			7:     {"100: 0", "100: 0", "100: 0"},
			99:    {"100: 0", "100: 0", "100: 0"},
			100:   {"100: 0", "200: 1", "100: 0"},
			36523: {"100: 0", "200: 1", "100: 0"},
			36524: {"100: 0", "170: 1 2", "70: 0 2"},
		} {
			if got := owesText(evaluate.Owes(c, month, known, tenant())); got != want[month] {
				t.Errorf("month %d, known %d: got %q, want %q", month, known, got, want[month])
			}
		}
	}
}

// P13.1 and P13.6: charges are added and rights subtracted, if they hold.
func TestOwes(t *testing.T) {
	for want, rules := range map[string][]string{
		"0:":          nil,
		"100: 0":      {always("charge x", "give 1 money")},
		"-100: 0":     {always("right x", "give 1 money")},
		"0: 0":        {always("right x", "give 0 money")},
		"0: 0 1":      {always("right x", "give 1 money"), always("charge y", "give 1 money")},
		"-50: 0 1 2":  {always("right x", "give 1 money"), always("charge y", "give 0.25 money"), always("charge z", "give 0.25 money")},
		"15: 0 2":     {always("charge x", "when k = 3 give k * m"), always("charge y", "when k < 3 give k * m"), always("right z", "when p give 0 * m")},
		"-3: 1 2":     {always("right x", "when not p give 1 money"), always("charge y", "give m - 0.04 money"), always("right z", "give a * d * 0.01 money / 3 area / 1 days")},
		"-7: 0":       {always("charge x", "give m - 12 * 0.01 money")},
		"7: 0":        {always("right x", "give m - 12 * 0.01 money")},
		"60: 0 1 2 3": {always("charge x", "give 1 money"), always("right y", "give 0.20 money"), always("charge z", "give 0.10 money"), always("right w", "give 0.30 money")},
	} {
		expectOwes(t, laws(rules...), 3, want)
	}
	for _, none := range [][]int{nil, {}} {
		if got := owesText(evaluate.Owes(api.Codex{}, 1199, 36524, none)); got != "0:" {
			t.Errorf("nothing: got %q", got)
		}
	}
}

// P13.1 and P13.7: of rules of each kind, charges and rights alone count.
func TestOtherKinds(t *testing.T) {
	expectOwes(t, everyKind(), 5, "-100: 0 1")
	if got := owesText(evaluate.Owes(everyKind(), 5, 0, []int{1, 4, 5, 2, 6})); got != "-100: 12 13" {
		t.Errorf("got %q", got)
	}
	zero := "when 1 / (k - 3) = 1 "
	expectOwes(t, laws(
		"duty d 1 about x from 0 known 0 "+zero+";",
		"ban b 1 about x from 0 known 0 "+zero+";",
		"rooms o 1 from 0 known 0 "+zero+"give 1;",
		"vote v 1 about x from 0 known 0 "+zero+"give 1;",
		"notice n 1 about x from 0 known 0 "+zero+"give 1 days;",
		"rooms i 1 from 0 known 0 give 1 / (k - 3);",
		"vote j 1 about x from 0 known 0 give billion * k;",
		always("charge c", "give 1 money"),
	), 5, "100: 7")
}

// P13.1 and P13.6: what each rule gives is rounded to the nearest cent by itself, and half of one away from 0.
func TestRounding(t *testing.T) {
	for give, want := range map[string]int{
		"0.01 money / 2":                          1,
		"0.01 money / 3":                          0,
		"0.02 money / 3":                          1,
		"0.01 money / 1":                          1,
		"0.03 money / 2":                          2,
		"0.05 money / 2":                          3,
		"0.05 money / 3":                          2,
		"0.04 money / 3":                          1,
		"0.07 money / 4":                          2,
		"0.05 money / 4":                          1,
		"0.06 money / 4":                          2,
		"499999999 / billion * 0.01 money":        0,
		"500000001 / billion * 0.01 money":        1,
		"9999999.99 money / 2":                    500000000,
		"9999999.99 money / 3":                    333333333,
		"9999999.98 money / 3":                    333333333,
		"billionth * 0.01 money":                  0,
		"k * m / 2":                               8,
		"m / a * 1 area":                          3,
		"if m / 2 > 0.02 money then m / 2 else m": 3,
	} {
		for source, cents := range map[string]int{give: want, "0 money - (" + give + ")": -want, "(0 - 1) * (" + give + ")": -want} {
			expectOwes(t, laws(always("charge x", "give "+source)), 0, strconv.Itoa(cents)+": 0")
			expectOwes(t, laws(always("right x", "give "+source)), 0, strconv.Itoa(-cents)+": 0")
			// Twice the rounded amount, and not the rounded double.
			expectOwes(t, laws(always("charge x", "give "+source), always("charge y", "give "+source)), 0, strconv.Itoa(2*cents)+": 0 1")
			expectOwes(t, laws(always("charge x", "give "+source), always("right y", "give "+source)), 0, "0: 0 1")
			expectOwes(t, laws(always("right x", "give "+source), always("right y", "give "+source)), 0, strconv.Itoa(-2*cents)+": 0 1")
		}
	}
}

// P13.1: amounts and sums at the bounds of layer 2 and beyond them; sums on the way do not matter.
func TestLargeAmounts(t *testing.T) {
	most, cent := "give 10000000 money", "give 0.01 money"
	plus, minus := func(name, give string) string { return always("charge "+name, give) }, func(name, give string) string { return always("right "+name, give) }
	for _, c := range []struct {
		want  string
		rules []string
	}{
		{"1000000000: 0", []string{plus("x", most)}},
		{"-1000000000: 0", []string{minus("x", most)}},
		{"ErrRange", []string{plus("x", most), plus("y", cent)}},
		{"ErrRange", []string{plus("x", cent), plus("y", most)}},
		{"ErrRange", []string{minus("x", most), minus("y", cent)}},
		{"ErrRange", []string{plus("x", most), plus("y", "give 0.01 money / 2")}},
		{"1000000000: 0 1", []string{plus("x", most), plus("y", "give 0.01 money / 3")}},
		{"999999999: 0 1", []string{plus("x", most), minus("y", cent)}},
		{"-999999999: 0 1", []string{plus("x", cent), minus("y", most)}},
		{"0: 0 1", []string{plus("x", most), minus("y", most)}},
		{"ErrRange", []string{plus("x", most), plus("y", most)}},
		{"1000000000: 0 1 2", []string{plus("x", most), plus("y", most), minus("z", most)}},
		{"-1000000000: 0 1 2", []string{minus("x", most), plus("y", most), minus("z", most)}},
		{"-1000000000: 0 1 2", []string{minus("x", most), minus("y", most), plus("z", most)}},
		{"ErrRange", []string{plus("x", "give 10000000 money + 0.01 money")}},
		{"ErrRange", []string{plus("x", "give 10000000 money * 2 / 2")}},
		{"-1000000000: 0", []string{plus("x", "give 0 money - 10000000 money")}},
		{"1000000000: 0", []string{minus("x", "give 0 money - 10000000 money")}},
		{"ErrRange", []string{minus("x", "give 0 money - 10000000 money"), plus("y", cent)}},
		{"1000000000: 0", []string{plus("x", most), plus("y", "when not p "+cent)}},
		{"1000000000: 0", []string{plus("x", most), "charge y 1 from 10 known 0 " + cent + ";"}},
	} {
		expectOwes(t, laws(c.rules...), 0, c.want)
	}
	c := laws(plus("x", most))
	for i := range 99 {
		r := c.Rules[i%2]
		r.Name, r.Kind = "x"+strconv.Itoa(i), 1+(i+1)%2
		c.Rules = append(c.Rules, r)
		sum := i % 2 * 1000000000
		if got := owesText(evaluate.Owes(c, 0, 0, tenant())); !strings.HasPrefix(got, strconv.Itoa(sum)+": 0 1") || strings.Count(got, " ") != i+2 {
			t.Errorf("%d rules: got %q", i+2, got)
		}
	}
	slices.SortStableFunc(c.Rules, func(a, b api.Rule) int { return a.Kind - b.Kind })
	if got := owesText(evaluate.Owes(c, 0, 0, tenant())); !strings.HasPrefix(got, "0: 0 1") {
		t.Errorf("50 charges and 50 rights: got %q", got)
	}
	for i := range c.Rules {
		c.Rules[i].Kind = api.RuleCharge
	}
	if got := owesText(evaluate.Owes(c, 0, 0, tenant())); got != "ErrRange" {
		t.Errorf("100 charges: got %q", got)
	}
}

// P13.1 and P1: of several errors the first one in the order of the chapter counts.
func TestOrderOfOwes(t *testing.T) {
	right, wrong := laws(always("charge x", "give 1 money / (k - 3)")), laws("charge x 2 from 0 known 0 give 1 money / (k - 3);")
	for _, c := range []struct {
		laws         api.Codex
		month, known int
		values       []int
		want         string
	}{
		{right, 0, 0, []int{1, 4, 5, 2, 6}, "100: 0"},
		{right, 0, 0, tenant(), "ErrZero"},
		{right, 0, 0, tenant()[:4], "ErrArg"},
		{right, 0, 0, append(tenant(), 1), "ErrArg"},
		{right, 0, 0, []int{1, 3, 5, 2, 9}, "ErrArg"},
		{right, 0, 0, nil, "ErrArg"},
		{right, 0, -1, nil, "ErrRange"},
		{right, 0, 36525, tenant(), "ErrRange"},
		{right, -1, 0, tenant(), "ErrRange"},
		{right, 1200, 0, nil, "ErrRange"},
		{wrong, 0, 0, tenant(), "ErrArg"},
		{wrong, 1199, -1, tenant(), "ErrArg"},
		{wrong, 0, 36525, nil, "ErrArg"},
		{wrong, -1, 0, tenant(), "ErrRange"},
		{wrong, 1200, -1, nil, "ErrRange"},
	} {
		if got := owesText(evaluate.Owes(c.laws, c.month, c.known, c.values)); got != c.want {
			t.Errorf("month %d, known %d, %v: got %q, want %q", c.month, c.known, c.values, got, c.want)
		}
	}
}

// P13.1: the errors of When and Give, rule by rule, before that of the sum.
func TestErrorsOfRules(t *testing.T) {
	zeroWhen, largeWhen := "when 1 / (k - 3) = 1 ", "when billion * k = 1 "
	zero, large, cent, most := "give 1 money / (k - 3)", "give billion * k * 1 money", "give 0.01 money", "give 10000000 money"
	for _, c := range []struct {
		want  string
		rules []string
	}{
		{"ErrZero", []string{always("charge x", zero)}},
		{"ErrRange", []string{always("right x", large)}},
		{"ErrZero", []string{always("right x", zeroWhen+large)}},
		{"ErrRange", []string{always("charge x", largeWhen+zero)}},
		{"ErrRange", []string{always("charge x", "when k = 3 "+large)}},
		{"0:", []string{always("charge x", "when k < 3 "+large)}},
		{"1: 1", []string{always("right x", "when not p "+zero), always("charge y", cent)}},
		{"ErrZero", []string{always("charge x", zero), always("charge y", large)}},
		{"ErrRange", []string{always("charge x", large), always("charge y", zero)}},
		{"ErrZero", []string{always("charge x", zero), always("right y", largeWhen+cent)}},
		{"ErrRange", []string{always("right x", largeWhen+cent), always("charge y", zero)}},
		{"ErrRange", []string{always("right x", large), always("charge y", zeroWhen+cent)}},
		{"ErrZero", []string{always("right x", zeroWhen+cent), always("charge y", large)}},
		{"ErrZero", []string{always("charge x", cent), always("right y", cent), always("charge z", zero), always("charge w", large)}},
		{"ErrZero", []string{always("charge x", "when k < 3 "+large), always("right y", zero)}},
		{"ErrZero", []string{always("charge x", most), always("charge y", most), always("right z", zero)}},
		{"ErrZero", []string{always("charge x", most), always("charge y", most), always("right z", zeroWhen+cent)}},
		{"ErrRange", []string{always("charge x", most), always("charge y", most), always("right z", "when k < 3 "+zero)}},
		{"1: 1", []string{"charge x 1 from 1 known 0 " + zero + ";", always("charge y", cent)}},
		{"1: 1", []string{always("charge x", zero), "charge x 2 from 0 until 1 known 0 " + cent + ";"}},
		{"ErrZero", []string{always("charge x", cent), "charge x 2 from 0 until 1 known 0 " + zero + ";"}},
	} {
		expectOwes(t, laws(c.rules...), 0, c.want)
	}
	// A rule with an error that is not known yet.
	c := laws("charge x 1 from 0 known 5 "+zero+";", always("charge y", cent))
	for known, want := range map[int]string{0: "1: 1", 4: "1: 1", 5: "ErrZero", 36524: "ErrZero"} {
		if got := owesText(evaluate.Owes(c, 0, known, tenant())); got != want {
			t.Errorf("known %d: got %q, want %q", known, got, want)
		}
	}
}
