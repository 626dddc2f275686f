package evaluate_test

import (
	"math"
	"strconv"
	"testing"

	"cohousing/api"
	"cohousing/evaluate"
)

// everyKind are by-laws with two rules of each kind in turn, of which the first one is for those with less than 4, and the second one for the others.
func everyKind() api.Codex {
	return laws(
		"charge c1 1 from 0 known 0 when k < 4 give 1 money;",
		"right r1 1 from 0 known 0 when k < 4 give 2 money;",
		"duty d1 1 about x from 0 known 0 when k < 4;",
		"ban b1 1 about x from 0 known 0 when k < 4;",
		"rooms o1 1 from 0 known 0 when k < 4 give 1;",
		"vote v1 1 about x from 0 known 0 when k < 4 give 1;",
		"notice n1 1 about x from 0 known 0 when k < 4 give 1 days;",
		"notice n2 1 about x from 0 known 0 when k >= 4 give 1 days;",
		"vote v2 1 about x from 0 known 0 when k >= 4 give 1;",
		"rooms o2 1 from 0 known 0 when k >= 4 give 1;",
		"ban b2 1 about x from 0 known 0 when k >= 4;",
		"duty d2 1 about x from 0 known 0 when k >= 4;",
		"right r2 1 from 0 known 0 when k >= 4 give 2 money;",
		"charge c2 1 from 0 known 0 when k >= 4 give 1 money;",
	)
}

// P13.1 and P13.5: rules of each kind, for households for which they hold and others, and kinds that are none.
func TestKinds(t *testing.T) {
	c := everyKind()
	for k := range 8 {
		values := tenant()
		values[1] = k
		for i, kind := range kinds() {
			want := strconv.Itoa(i)
			if k >= 4 {
				want = strconv.Itoa(13 - i)
			}
			for _, day := range []int{0, 1, 20000, 36524} {
				if got := holdsText(evaluate.Holds(c, kind, day, 36524-day, values)); got != want {
					t.Errorf("kind %d for %v: got %q, want %q", kind, values, got, want)
				}
			}
		}
		for _, kind := range []int{0, 8, -1, 9, 17, math.MinInt, math.MaxInt, 1 << 32, -7} {
			if got := holdsText(evaluate.Holds(c, kind, 0, 0, values)); got != "ErrArg" {
				t.Errorf("kind %d for %v: got %q", kind, values, got)
			}
		}
	}
}

// P13.1 and P13.5: rules that are in force and hold come in the order of the by-laws, and no others.
func TestHolds(t *testing.T) {
	c := laws(
		"ban z 1 about x from 0 known 0 when true;",
		"duty a 1 about x from 0 known 0;",
		"ban y 1 about y from 0 known 0 when k = 4;",
		"ban x 1 about x from 0 until 10 known 0;",
		"ban w 1 about x from 10 known 0;",
		"ban v 1 about x from 0 until 36525 known 0 when p and m = 0.05 money and a = 2 area and d = 6 days;",
		"ban x 2 about x from 5 until 7 known 0 when not p;",
		"ban w 2 about x from 12 until 14 known 0 when p;",
	)
	for day, want := range map[int]string{0: "0 3 5", 4: "0 3 5", 5: "0 5", 6: "0 5", 7: "0 3 5", 9: "0 3 5", 10: "0 4 5", 11: "0 4 5", 12: "0 5 7", 13: "0 5 7", 14: "0 4 5", 36524: "0 4 5"} {
		expectHolds(t, c, api.RuleBan, day, want)
		expectHolds(t, c, api.RuleDuty, day, "1")
		expectHolds(t, c, api.RuleVote, day, "")
	}
	expectHolds(t, laws(), api.RuleBan, 0, "")
	for _, kind := range kinds() {
		if got := holdsText(evaluate.Holds(api.Codex{}, kind, 36524, 0, nil)); got != "" {
			t.Errorf("no rules: got %q", got)
		}
	}
}

// P13.1: a rule holds as known on a day.
func TestHoldsAsKnown(t *testing.T) {
	c := laws("rooms x 1 from 0 known 7 give 1;", "rooms x 2 from 0 known 9 when not p give 1;", "rooms y 1 from 0 until 5 known 36524 give 1;")
	for known, want := range map[int]string{0: "", 6: "", 7: "0", 8: "0", 9: "", 10: "", 36523: "", 36524: "2"} {
		if got := holdsText(evaluate.Holds(c, api.RuleRooms, 3, known, tenant())); got != want {
			t.Errorf("known %d: got %q, want %q", known, got, want)
		}
	}
}

// P13.1: days and days of knowledge at their bounds and beside them.
func TestDays(t *testing.T) {
	c := laws("vote x 1 about x from 0 known 0 give 1;")
	for _, day := range []int{0, 1, 36523, 36524, -1, 36525, math.MinInt, math.MaxInt} {
		for _, known := range []int{0, 1, 36523, 36524, -1, 36525, math.MinInt, math.MaxInt} {
			want := "0"
			if day < 0 || day > 36524 || known < 0 || known > 36524 {
				want = "ErrRange"
			}
			if got := holdsText(evaluate.Holds(c, api.RuleVote, day, known, tenant())); got != want {
				t.Errorf("day %d, known %d: got %q, want %q", day, known, got, want)
			}
		}
	}
}

// P13.1 and P1: of several errors the first one in the order of the chapter counts.
func TestOrderOfHolds(t *testing.T) {
	right, wrong := laws("charge x 1 from 0 known 0 when 1 / (k - 3) = 1 give 1 money;"), laws("charge x 2 from 0 known 0 when 1 / (k - 3) = 1 give 1 money;")
	other := []int{1, 4, 5, 2, 6}
	for _, c := range []struct {
		laws             api.Codex
		kind, day, known int
		values           []int
		want             string
	}{
		{right, 1, 0, 0, other, "0"},
		{right, 1, 0, 0, tenant(), "ErrZero"},
		{right, 1, 0, 0, tenant()[:4], "ErrArg"},
		{right, 1, 0, 0, append(tenant(), 1), "ErrArg"},
		{right, 1, 0, 0, nil, "ErrArg"},
		{right, 1, -1, 0, nil, "ErrRange"},
		{right, 1, -1, 0, tenant(), "ErrRange"},
		{right, 1, 0, 36525, nil, "ErrRange"},
		{right, 1, 36525, -1, other, "ErrRange"},
		{wrong, 1, 0, 0, other, "ErrArg"},
		{wrong, 1, -1, 36525, nil, "ErrArg"},
		{right, 0, -1, 36525, nil, "ErrArg"},
		{right, 8, -1, 36525, other, "ErrArg"},
		{right, 8, 0, 0, other, "ErrArg"},
		{wrong, 0, 0, 0, other, "ErrArg"},
		{wrong, 8, -1, -1, nil, "ErrArg"},
		{right, 2, -1, 0, nil, "ErrRange"},
		{right, 2, 0, 0, nil, "ErrArg"},
		{right, 2, 0, 0, tenant(), ""},
	} {
		if got := holdsText(evaluate.Holds(c.laws, c.kind, c.day, c.known, c.values)); got != c.want {
			t.Errorf("kind %d, day %d, known %d, %v: got %q, want %q", c.kind, c.day, c.known, c.values, got, c.want)
		}
	}
}

// P13.1: the error of a When counts if its rule has the kind and is in force, and if none before it has one.
func TestErrorsOfWhen(t *testing.T) {
	zero, large, right := " when 1 / (k - 3) = 1", " when billion * k = 1", " when k = 3"
	ban := func(name, days, when string) string {
		return "ban " + name + " 1 about x " + days + when + ";"
	}
	always := "from 0 known 0"
	expect := func(want string, rules ...string) {
		t.Helper()
		expectHolds(t, laws(rules...), api.RuleBan, 10, want)
	}
	expect("ErrZero", ban("x", always, zero))
	expect("ErrRange", ban("x", always, large))
	expect("ErrZero", ban("x", always, zero), ban("y", always, large))
	expect("ErrRange", ban("x", always, large), ban("y", always, zero))
	expect("ErrZero", ban("x", always, right), ban("y", always, zero))
	expect("ErrZero", ban("x", always, zero), ban("y", always, right))
	expect("ErrRange", ban("x", always, right), ban("y", always, large), ban("z", always, right), ban("w", always, zero))
	// Of another kind.
	expect("", "duty x 1 about x from 0 known 0"+zero+";")
	expect("1", "duty x 1 about x from 0 known 0"+zero+";", ban("y", always, right), "charge z 1 from 0 known 0"+large+" give 1 money;")
	expect("ErrRange", "duty x 1 about x from 0 known 0"+zero+";", ban("y", always, large))
	// Not in force: before it, behind it, instead of it, and not known yet.
	expect("0 3", ban("x", always, right), ban("y", "from 11 known 0", zero), ban("z", "from 0 until 10 known 0", zero), ban("w", always, right))
	expect("1", ban("x", always, zero), "ban x 2 about x from 10 until 11 known 0"+right+";")
	expect("ErrZero", ban("x", always, zero), "ban x 2 about x from 11 known 0"+right+";")
	expect("ErrZero", ban("x", always, right), "ban x 2 about x from 10 known 0"+zero+";")
	c := laws(ban("x", "from 0 known 6", zero), ban("y", "from 0 known 4", right))
	if got := holdsText(evaluate.Holds(c, api.RuleBan, 10, 5, tenant())); got != "1" {
		t.Errorf("not known yet: got %q", got)
	}
	if got := holdsText(evaluate.Holds(c, api.RuleBan, 10, 6, tenant())); got != "ErrZero" {
		t.Errorf("known: got %q", got)
	}
	// Behind what decides.
	expect("0", ban("x", always, " when k = 3 or 1 / (k - 3) = 1"))
	expect("", ban("x", always, " when k < 3 and billion * k = 1"))
	expect("ErrRange", ban("x", always, " when k = 3 and billion * k = 1"))
	// What a rule gives is not computed.
	for kind, rule := range map[int]string{
		api.RuleCharge: "charge x 1 from 0 known 0 give 1 money / (k - 3);",
		api.RuleRight:  "right x 1 from 0 known 0 give billion * k * 1 money;",
		api.RuleRooms:  "rooms x 1 from 0 known 0 give 1 / (k - 3);",
		api.RuleVote:   "vote x 1 about x from 0 known 0 give 1 / (k - 3);",
		api.RuleNotice: "notice x 1 about x from 0 known 0 give 1 days / (k - 3);",
	} {
		expectHolds(t, laws(rule), kind, 10, "0")
	}
}

// endless is an expression that contains itself.
func endless() api.Node {
	n := node(api.OpAnd, node(api.OpTrue), node(api.OpTrue))
	n.Kids[1] = n
	return n
}

// P13.1 and P1: by-laws in which something is wrong, also in rules that would not be computed.
func TestWrongLaws(t *testing.T) {
	for _, change := range []func(c *api.Codex){
		func(c *api.Codex) { c.Rules[13].When = endless() },
		func(c *api.Codex) { c.Rules[13].Give = endless() },
		func(c *api.Codex) { c.Rules[13].When = expression("k") },
		func(c *api.Codex) { c.Rules[13].When = expression("unknown") },
		func(c *api.Codex) { c.Rules[13].When = api.Node{} },
		func(c *api.Codex) { c.Rules[13].Give = expression("k") },
		func(c *api.Codex) { c.Rules[13].Give = expression("0.5 * 1 flag") },
		func(c *api.Codex) { c.Rules[13].Name = "n1" },
		func(c *api.Codex) { c.Rules[13].Name = "" },
		func(c *api.Codex) { c.Rules[13].Kind = 0 },
		func(c *api.Codex) { c.Rules[13].Kind = 8 },
		func(c *api.Codex) { c.Rules[13].Act = "x" },
		func(c *api.Codex) { c.Rules[13].Version = 2 },
		func(c *api.Codex) { c.Rules[13].Days.Until = 0 },
		func(c *api.Codex) { c.Rules[13].Known = 36525 },
		func(c *api.Codex) { c.Decls[0].Hi = 2 },
		func(c *api.Codex) { c.Decls[0].Name = "k" },
		func(c *api.Codex) { c.Decls = nil },
	} {
		c := everyKind()
		change(&c)
		for _, kind := range append(kinds(), 0, 8) {
			for _, day := range []int{0, -1} {
				if got := holdsText(evaluate.Holds(c, kind, day, 0, tenant())); got != "ErrArg" {
					t.Errorf("%skind %d: got %q", shownLaws(c), kind, got)
				}
			}
		}
		for month, want := range map[int]string{0: "ErrArg", 1199: "ErrArg", -1: "ErrRange", 1200: "ErrRange"} {
			if got := owesText(evaluate.Owes(c, month, 0, tenant())); got != want {
				t.Errorf("%smonth %d: got %q, want %q", shownLaws(c), month, got, want)
			}
		}
	}
}
