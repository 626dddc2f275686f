package conflict_test

import (
	"math"
	"testing"

	"cohousing/api"
	"cohousing/conflict"
)

// P14.1: rules of all kinds that accept nobody, whatever their days, versions and knowledge are.
func TestNever(t *testing.T) {
	c := house(
		"charge a 1 from 0 known 0 when k > 3 give 1 money;",
		"charge b 1 from 0 known 0 when k > 2 give 1 money;",
		"right c 1 from 36524 known 36524 when m > 0.02 money give 1 money;",
		"right d 1 from 36524 known 36524 when m > 0.01 money give 1 money;",
		"duty e 1 about x from 0 until 1 known 0 when p and not p;",
		"duty e 2 about x from 0 until 1 known 0 when p;",
		"ban f 1 about x from 0 until 1 known 0;",
		"ban f 2 about x from 0 known 0 when d < 5 days;",
		"rooms g 1 from 5 until 6 known 7 when 2 < 1 give 1;",
		"rooms g 2 from 5 until 6 known 7 give 1;",
		"vote h 1 about x from 0 known 0 when 1 / (k - k) = 1 give 1;",
		"vote i 1 about x from 0 known 0 when 1 / (k - 3) < 1 give 1;",
		"notice j 1 about x from 0 known 0 when d > 7 days give 1 days;",
		"notice l 1 about x from 0 known 0 when d > 6 days and k = 3 and p and m = 0.02 money give 1 days;",
	)
	expectNever(t, c, 0, 2, 4, 7, 8, 10, 12)
	expectNever(t, house())
	expectNever(t, laws())
	expectNever(t, laws("ban a 1 about x from 0 known 0;", "ban b 1 about x from 0 known 0 when not true;"), 1)
}

// P14.5: what a rule gives does not matter, nor an error in it.
func TestGiftsDoNotMatter(t *testing.T) {
	expectNever(t, house("charge a 1 from 0 known 0 give 1 money / 0;", "charge b 1 from 0 known 0 when k > 3 give 1 money / 0;", "rooms c 1 from 0 known 0 give 0;"), 1)
}

// P14.1: by-laws that are not valid are refused, and so are days of knowledge that there are not.
func TestRefused(t *testing.T) {
	right := func() api.Codex {
		return house("duty a 1 about x from 0 known 0;", "ban b 1 about x from 0 known 0 when p;", "charge c 1 from 0 known 0 give 1 money;")
	}
	expectClashes(t, right(), 0, "0 and 1 on 0 for [1 0 5 0]")
	for _, known := range []int{-1, 36525, 36526, math.MinInt, math.MaxInt, 1 << 32} {
		if got := clashesText(conflict.Clashes(right(), known)); got != "error 1" {
			t.Errorf("as known on %d: got %s, want an error", known, got)
		}
		if got := clashesText(conflict.Clashes(api.Codex{}, known)); got != "error 1" {
			t.Errorf("no by-laws, as known on %d: got %s, want an error", known, got)
		}
	}
	for _, change := range []func(c *api.Codex){
		func(c *api.Codex) { c.Decls[0].Hi = 2 },
		func(c *api.Codex) { c.Decls[1].Lo = 4 },
		func(c *api.Codex) { c.Decls[1].Hi = 4096 },
		func(c *api.Codex) { c.Decls[1].Name = "p" },
		func(c *api.Codex) { c.Decls[1].Name = "" },
		func(c *api.Codex) { c.Rules[1].Version = 2 },
		func(c *api.Codex) { c.Rules[1].Version = 0 },
		func(c *api.Codex) { c.Rules[1].Name = "a" },
		func(c *api.Codex) { c.Rules[2].Name = "" },
		func(c *api.Codex) { c.Rules[2].Kind = 8 },
		func(c *api.Codex) { c.Rules[2].Kind = 0 },
		func(c *api.Codex) { c.Rules[0].Act = "" },
		func(c *api.Codex) { c.Rules[2].Act = "x" },
		func(c *api.Codex) { c.Rules[2].Days.Until = 0 },
		func(c *api.Codex) { c.Rules[2].Days.Until = 36526 },
		func(c *api.Codex) { c.Rules[2].Days.From = -1 },
		func(c *api.Codex) { c.Rules[2].Known = -1 },
		func(c *api.Codex) { c.Rules[2].Known = 36525 },
		func(c *api.Codex) { c.Rules[2].When.Op = 0 },
		func(c *api.Codex) { c.Rules[1].When.Name = "unknown" },
		func(c *api.Codex) { c.Rules[1].When.Name = "k" },
		func(c *api.Codex) { c.Rules[2].Give.Unit = api.Unit{} },
		func(c *api.Codex) { c.Rules[0].Give.N.N = 1 },
		func(c *api.Codex) {
			for len(c.Rules) < 101 {
				c.Rules = append(c.Rules, c.Rules[2])
				c.Rules[len(c.Rules)-1].Version = len(c.Rules) - 2
			}
		},
	} {
		c := right()
		change(&c)
		expectRefused(t, c)
	}
}

// P14.1: a hundred rules.
func TestManyRules(t *testing.T) {
	c := house("duty a 1 about x from 0 known 0 when k < 2;", "ban b 1 about x from 0 known 0 when k > 0;")
	for len(c.Rules) < 100 {
		r := c.Rules[len(c.Rules)-2]
		r.Version++
		c.Rules = append(c.Rules, r)
	}
	// Of all versions the last ones are in force.
	expectClashes(t, c, 0, "98 and 99 on 0 for [0 1 5 0]")
	expectNever(t, c)
	for i := range c.Rules {
		c.Rules[i].Name, c.Rules[i].Version = "x"+string(rune('a'+i/26))+string(rune('a'+i%26)), 1
	}
	got, e := conflict.Clashes(c, 0)
	if len(got) != 2500 || e != api.OK {
		t.Fatalf("got %d clashes, %v", len(got), e)
	}
	for i, clash := range got {
		if clash.One != i/50*2 || clash.Two != i%50*2+1 {
			t.Fatalf("got %s as clash %d", clashText(clash), i)
		}
	}
}
