package codex_test

import (
	"math"
	"slices"
	"strconv"
	"testing"

	"cohousing/api"
	"cohousing/codex"
)

// P12.1: the first day and the last day of a rule, and the days beside them.
func TestFirstAndLastDay(t *testing.T) {
	for _, days := range []api.Span{{From: 0, Until: 1}, {From: 0, Until: 36525}, {From: 36524, Until: 36525}, {From: 1, Until: 2}, {From: 1, Until: 36524}, {From: 100, Until: 200}, {From: 36523, Until: 36524}} {
		c := bylaws(rule("x", 1, days.From, days.Until, 0))
		for _, day := range []int{0, 1, 2, days.From - 1, days.From, days.From + 1, days.Until - 2, days.Until - 1, days.Until, days.Until + 1, 36522, 36523, 36524} {
			switch {
			case day < 0 || day > 36524:
				expectError(t, c, day, 0, api.ErrRange)
			case day < days.From || day >= days.Until:
				expectForce(t, c, day, 0)
			default:
				expectForce(t, c, day, 0, 0)
			}
		}
	}
}

// P12.1: a rule is known on its day Known and later, whatever days it has itself.
func TestKnown(t *testing.T) {
	for _, known := range []int{0, 1, 149, 150, 151, 36523, 36524} {
		c := bylaws(rule("x", 1, 100, 200, known))
		for _, asked := range []int{0, 1, known - 1, known, known + 1, 36523, 36524} {
			switch {
			case asked < 0 || asked > 36524:
				expectError(t, c, 150, asked, api.ErrRange)
			case asked < known:
				expectForce(t, c, 150, asked)
				expectChanges(t, c, asked)
			default:
				expectForce(t, c, 99, asked)
				expectForce(t, c, 100, asked, 0)
				expectForce(t, c, 199, asked, 0)
				expectForce(t, c, 200, asked)
				expectChanges(t, c, asked, 100, 200)
			}
		}
	}
}

// P12.1: days that are none, alone and together, in this order of errors.
func TestDays(t *testing.T) {
	right := bylaws(rules("x 0 36525 0", "y 5 10 5")...)
	wrong := bylaws(rule("x", 2, 0, 36525, 0))
	days := []int{0, 1, 7, 36523, 36524}
	others := []int{-1, 36525, -2, 36526, math.MinInt, math.MaxInt, math.MinInt + 1, math.MaxInt - 1, 1 << 32, -1 << 32}
	for _, day := range days {
		for _, known := range days {
			if day == 7 && known > 5 {
				expectForce(t, right, day, known, 0, 1)
			} else {
				expectForce(t, right, day, known, 0)
			}
			expectError(t, wrong, day, known, api.ErrArg)
		}
		for _, other := range others {
			expectError(t, right, day, other, api.ErrRange)
			expectError(t, right, other, day, api.ErrRange)
			expectError(t, wrong, day, other, api.ErrArg)
			expectError(t, wrong, other, day, api.ErrArg)
		}
	}
	for _, day := range others {
		for _, known := range others {
			expectError(t, right, day, known, api.ErrRange)
			expectError(t, wrong, day, known, api.ErrArg)
			expectError(t, api.Codex{}, day, known, api.ErrRange)
		}
	}
}

// P12.1 and P12.2: a second version that begins before, with and after the first one, ends before, with and after it, lies within it, around it, apart from it or beside it.
func TestTwoVersions(t *testing.T) {
	for second, picture := range map[string]string{
		"x 0 1":  "2.1111....",
		"x 0 2":  "221111....",
		"x 1 4":  ".22211....",
		"x 0 6":  "222222....",
		"x 0 10": "2222222222",
		"x 2 3":  "..2111....",
		"x 2 4":  "..2211....",
		"x 2 6":  "..2222....",
		"x 2 9":  "..2222222.",
		"x 3 5":  "..1221....",
		"x 4 6":  "..1122....",
		"x 5 6":  "..1112....",
		"x 4 8":  "..112222..",
		"x 6 8":  "..111122..",
		"x 7 9":  "..1111.22.",
	} {
		expectPicture(t, "..........", 4, "x 2 6 5", second+" 7")
		expectPicture(t, "..1111....", 6, "x 2 6 5", second+" 7")
		expectPicture(t, picture, 7, "x 2 6 5", second+" 7")
		expectPicture(t, picture, 36524, "x 2 6 5", second+" 7")
		expectPicture(t, "..........", 4, "x 2 6 5", second+" 5")
		expectPicture(t, picture, 5, "x 2 6 5", second+" 5")
		expectPicture(t, picture, 6, "x 2 6 5", second+" 5")
		expectPicture(t, picture, 0, "x 2 6 0", second+" 0")
		expectPicture(t, "..1111....", 36523, "x 2 6 0", second+" 36524")
		expectPicture(t, picture, 36524, "x 2 6 36524", second+" 36524")
	}
}

// P12.1 and P12.2: three versions and more, of which the last one is not known yet, or has ended, or the one between.
func TestMoreVersions(t *testing.T) {
	expectPicture(t, "1112223331", 0, "x 0 10 0", "x 3 9 0", "x 6 9 0")
	expectPicture(t, "1112222221", 5, "x 0 10 5", "x 3 9 5", "x 6 9 6")
	expectPicture(t, "1111111111", 5, "x 0 10 5", "x 3 9 6", "x 6 9 6")
	expectPicture(t, "1112223331", 6, "x 0 10 5", "x 3 9 6", "x 6 9 6")
	expectPicture(t, "3332221111", 1, "x 0 10 1", "x 0 6 1", "x 0 3 1")
	expectPicture(t, "2222221111", 1, "x 0 10 1", "x 0 6 1", "x 0 3 2")
	expectPicture(t, "3333333333", 1, "x 2 8 1", "x 4 6 1", "x 0 10 1")
	expectPicture(t, "..112211..", 1, "x 2 8 1", "x 4 6 1", "x 0 10 2")
	expectPicture(t, "..133311..", 1, "x 2 8 1", "x 3 5 1", "x 3 6 1")
	expectPicture(t, "..1333211.", 1, "x 2 9 1", "x 5 7 1", "x 3 6 1")
	expectPicture(t, "1.2.3.4.5.", 9, "x 0 1 1", "x 2 3 1", "x 4 5 3", "x 6 7 8", "x 8 9 9")
	expectPicture(t, "5.4.3.2.1.", 9, "x 8 9 1", "x 6 7 1", "x 4 5 3", "x 2 3 8", "x 0 1 9")
	expectPicture(t, "..4.3.2.1.", 8, "x 8 9 1", "x 6 7 1", "x 4 5 3", "x 2 3 8", "x 0 1 9")
	expectPicture(t, "9876543211", 0, "x 0 10 0", "x 0 8 0", "x 0 7 0", "x 0 6 0", "x 0 5 0", "x 0 4 0", "x 0 3 0", "x 0 2 0", "x 0 1 0")
	expectPicture(t, "1234567899", 0, "x 0 10 0", "x 1 10 0", "x 2 10 0", "x 3 10 0", "x 4 10 0", "x 5 10 0", "x 6 10 0", "x 7 10 0", "x 8 10 0")
	expectPicture(t, "4444444444", 0, "x 0 10 0", "x 0 10 0", "x 0 10 0", "x 0 10 0")
	expectPicture(t, "2222222222", 3, "x 0 10 0", "x 0 10 3", "x 0 10 4", "x 0 10 4")
}

// P12.1: rules of several names, one behind the other and in turn, stand for themselves, and come in the order of the by-laws.
func TestSeveralNames(t *testing.T) {
	behind := bylaws(rules("y 0 10 0", "y 5 20 3", "x 0 10 0", "x 5 20 3", "z 8 9 0")...)
	expectForce(t, behind, 0, 0, 0, 2)
	expectForce(t, behind, 4, 3, 0, 2)
	expectForce(t, behind, 5, 2, 0, 2)
	expectForce(t, behind, 5, 3, 1, 3)
	expectForce(t, behind, 8, 2, 0, 2, 4)
	expectForce(t, behind, 8, 3, 1, 3, 4)
	expectForce(t, behind, 19, 2)
	expectForce(t, behind, 19, 3, 1, 3)
	expectForce(t, behind, 20, 3)
	inTurn := bylaws(rules("y 0 10 0", "x 0 10 0", "z 8 9 0", "y 5 20 3", "x 5 20 4")...)
	expectForce(t, inTurn, 0, 0, 0, 1)
	expectForce(t, inTurn, 5, 2, 0, 1)
	expectForce(t, inTurn, 5, 3, 1, 3)
	expectForce(t, inTurn, 5, 4, 3, 4)
	expectForce(t, inTurn, 8, 3, 1, 2, 3)
	expectForce(t, inTurn, 8, 4, 2, 3, 4)
	expectForce(t, inTurn, 10, 3, 3)
	// Names that begin alike, and one that is also that of a fact, are different ones.
	alike := bylaws(rules("x 0 10 0", "x1 0 10 0", "x_ 0 10 0", "xx 0 10 0", "k 0 10 0", "abcdefghijklmnop 0 10 0", "abcdefghijklmno 0 10 0", "x 5 10 0")...)
	expectForce(t, alike, 4, 0, 0, 1, 2, 3, 4, 5, 6)
	expectForce(t, alike, 5, 0, 1, 2, 3, 4, 5, 6, 7)
}

// P12.1: rules of each kind are in force alike, whatever they give, and for whomever they hold.
func TestKinds(t *testing.T) {
	var all []api.Rule
	for i, kind := range kinds() {
		r := plain("r"+strconv.Itoa(i), kind)
		r.Days.From = i
		r.When = node(api.OpNot, yes())
		all = append(all, r)
	}
	c := bylaws(all...)
	want := []int{}
	for i := range all {
		want = append(want, i)
		expectForce(t, c, i, 0, want...)
	}
	expectChanges(t, c, 0, 1, 2, 3, 4, 5, 6)
	// Rules that are about one act are not versions of one rule.
	duty, ban := plain("x", api.RuleDuty), plain("y", api.RuleBan)
	expectForce(t, bylaws(duty, ban), 0, 0, 0, 1)
}

// P12.1: 100 rules, each with a name of its own, and with one for all of them.
func TestManyRules(t *testing.T) {
	var apart, together []api.Rule
	var every, last []int
	for i := range 100 {
		apart = append(apart, rule("x"+strconv.Itoa(i), 1, 0, 36525-i, 0))
		together = append(together, rule("x", i+1, 0, 36525-i, i))
		every = append(every, i)
		last = append(last, 36425+i)
	}
	for i := range 100 {
		expectForce(t, bylaws(apart...), 36425+i, 0, every[:100-i]...)
		expectForce(t, bylaws(together...), 36425+i, 36524, 99-i)
		expectForce(t, bylaws(together...), 0, i, i)
	}
	expectChanges(t, bylaws(apart...), 0, last[1:]...)
	expectChanges(t, bylaws(together...), 99, last[1:]...)
}

// wrongs are by-laws in each of which something is wrong.
func wrongs() []api.Codex {
	right := rules("x 0 10 5", "y 0 10 5", "x 3 6 7")
	var all []api.Codex
	changed := func(change func(c *api.Codex)) {
		c := bylaws(slices.Clone(right)...)
		change(&c)
		all = append(all, c)
	}
	changed(func(c *api.Codex) { c.Decls[0].Name = "k" })
	changed(func(c *api.Codex) { c.Decls[0].Name = "" })
	changed(func(c *api.Codex) { c.Decls[0].Hi = 2 })
	changed(func(c *api.Codex) { c.Decls[1].Lo = 8 })
	changed(func(c *api.Codex) { c.Decls[1].Hi = 4096 })
	changed(func(c *api.Codex) { c.Decls = slices.Repeat(c.Decls, 3) })
	changed(func(c *api.Codex) { c.Rules = slices.Repeat(c.Rules, 34) })
	changed(func(c *api.Codex) { c.Rules[2].Version = 1 })
	changed(func(c *api.Codex) { c.Rules[2].Version = 3 })
	changed(func(c *api.Codex) { c.Rules[2].Known = 4 })
	changed(func(c *api.Codex) { c.Rules[1].Version = 2 })
	changed(func(c *api.Codex) { c.Rules[1].Name = "x" })
	changed(func(c *api.Codex) { c.Rules[1].Name = "true" })
	changed(func(c *api.Codex) { c.Rules[1].Kind = 0 })
	changed(func(c *api.Codex) { c.Rules[2].Kind = api.RuleRight })
	changed(func(c *api.Codex) { c.Rules[1].Act = "act" })
	changed(func(c *api.Codex) { c.Rules[1].Days.From = -1 })
	changed(func(c *api.Codex) { c.Rules[1].Days.Until = 36526 })
	changed(func(c *api.Codex) { c.Rules[1].Days.Until = 0 })
	changed(func(c *api.Codex) { c.Rules[1].Known = -1 })
	changed(func(c *api.Codex) { c.Rules[1].Known = 36525 })
	changed(func(c *api.Codex) { c.Rules[0].When = fact("k") })
	changed(func(c *api.Codex) { c.Rules[1].When = api.Node{} })
	changed(func(c *api.Codex) { c.Rules[2].Give = fact("k") })
	changed(func(c *api.Codex) { c.Rules[1].Give = fact("unknown") })
	changed(func(c *api.Codex) { c.Rules[0].Give = node(api.OpAdd, fact("m"), fact("a")) })
	changed(func(c *api.Codex) { c.Rules[0], c.Rules[2] = c.Rules[2], c.Rules[0] })
	return all
}

// P12.1: by-laws in which something is wrong have no rules in force, no changes and no amendments.
func TestNotValid(t *testing.T) {
	if c := bylaws(rules("x 0 10 5", "y 0 10 5", "x 3 6 7")...); !codex.Valid(c) {
		t.Error("by-laws are not valid")
	}
	for _, c := range wrongs() {
		if codex.Valid(c) {
			t.Errorf("%s: valid", brief(c.Rules))
		}
		for _, day := range []int{0, 4, 36524, -1, 36525, math.MinInt, math.MaxInt} {
			expectError(t, c, day, 10, api.ErrArg)
			expectError(t, c, 4, day, api.ErrArg)
		}
		expectRefused(t, c, rule("new", 1, 0, 10, 0), api.ErrArg)
		expectRefused(t, c, rule("x", 3, 0, 10, 7), api.ErrArg)
		expectRefused(t, c, rule("x", 1, 0, 10, 7), api.ErrArg)
		expectRefused(t, c, api.Rule{}, api.ErrArg)
	}
}
