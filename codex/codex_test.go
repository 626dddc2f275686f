package codex_test

import (
	"slices"
	"strconv"
	"strings"
	"testing"

	"cohousing/api"
	"cohousing/codex"
)

// house declares a fact of each basic unit.
func house() []api.Decl {
	return []api.Decl{
		{Name: "p", Unit: api.Unit{Flag: true}, Hi: 1, At: 1},
		{Name: "k", Hi: 7, At: 2},
		{Name: "m", Unit: api.Unit{Money: 1}, Hi: 7, At: 3},
		{Name: "a", Unit: api.Unit{Area: 1}, Lo: 1, Hi: 4, At: 4},
		{Name: "d", Unit: api.Unit{Days: 1}, Lo: 5, Hi: 8, At: 5},
	}
}

func fact(name string) api.Node { return api.Node{Op: api.OpFact, Name: name, At: 11} }

func number(n int, unit api.Unit) api.Node {
	return api.Node{Op: api.OpNumber, N: api.Rat{N: n, D: 1}, Unit: unit, At: 12}
}

func yes() api.Node { return api.Node{Op: api.OpTrue, At: 13} }

// node is a node with operands.
func node(op int, kids ...api.Node) api.Node { return api.Node{Op: op, At: 14, Kids: kids} }

// kinds are those of rules.
func kinds() []int {
	return []int{api.RuleCharge, api.RuleRight, api.RuleDuty, api.RuleBan, api.RuleRooms, api.RuleVote, api.RuleNotice}
}

// unitOf is the unit of what a rule of a kind gives.
func unitOf(kind int) api.Unit {
	switch kind {
	case api.RuleCharge, api.RuleRight:
		return api.Unit{Money: 1}
	case api.RuleNotice:
		return api.Unit{Days: 1}
	}
	return api.Unit{}
}

// hasAct reports whether rules of a kind are about an act.
func hasAct(kind int) bool {
	return slices.Contains([]int{api.RuleDuty, api.RuleBan, api.RuleVote, api.RuleNotice}, kind)
}

// plain is the version 1 of a rule of a kind, which is always in force.
func plain(name string, kind int) api.Rule {
	r := api.Rule{Name: name, Version: 1, Kind: kind, Days: api.Span{From: 0, Until: 36525}, When: yes(), Give: number(0, unitOf(kind)), At: 20}
	if hasAct(kind) {
		r.Act = "act"
	}
	return r
}

// rule is a charge with a version, the days on which it is in force, and the day from which it is known.
func rule(name string, version, from, until, known int) api.Rule {
	r := plain(name, api.RuleCharge)
	r.Version, r.Days, r.Known = version, api.Span{From: from, Until: until}, known
	return r
}

// rules are rules as texts tell them: a name, the first day, the day behind the last one, and the day from which it is known; the versions of each name are counted.
func rules(texts ...string) []api.Rule {
	var all []api.Rule
	versions := map[string]int{}
	for _, text := range texts {
		fields := strings.Fields(text)
		var numbers [3]int
		for i := range numbers {
			n, err := strconv.Atoi(fields[i+1])
			if err != nil {
				panic(text)
			}
			numbers[i] = n
		}
		versions[fields[0]]++
		all = append(all, rule(fields[0], versions[fields[0]], numbers[0], numbers[1], numbers[2]))
	}
	return all
}

// bylaws are those of the house with some rules.
func bylaws(all ...api.Rule) api.Codex { return api.Codex{Decls: house(), Rules: all} }

// brief is what is shown of rules.
func brief(all []api.Rule) string {
	text := ""
	for _, r := range all[:min(len(all), 12)] {
		text += " " + r.Name
		for _, n := range []int{r.Version, r.Kind, r.Days.From, r.Days.Until, r.Known} {
			text += " " + strconv.Itoa(n)
		}
		text += ";"
	}
	return text
}

// force are the rules in force, where there is no error.
func force(t *testing.T, c api.Codex, day, known int) []int {
	t.Helper()
	got, e := codex.Force(c, day, known)
	if e != api.OK {
		t.Fatalf("%s: day %d, known %d: %v", brief(c.Rules), day, known, e)
	}
	return got
}

// changes are the days of changes, where there is no error.
func changes(t *testing.T, c api.Codex, known int) []int {
	t.Helper()
	got, e := codex.Changes(c, known)
	if e != api.OK {
		t.Fatalf("%s: known %d: %v", brief(c.Rules), known, e)
	}
	return got
}

// expectForce expects the indexes of the rules in force.
func expectForce(t *testing.T, c api.Codex, day, known int, want ...int) {
	t.Helper()
	if got := force(t, c, day, known); !slices.Equal(got, want) {
		t.Errorf("%s: day %d, known %d: got %v, want %v", brief(c.Rules), day, known, got, want)
	}
}

// expectChanges expects the days of changes.
func expectChanges(t *testing.T, c api.Codex, known int, want ...int) {
	t.Helper()
	if got := changes(t, c, known); !slices.Equal(got, want) {
		t.Errorf("%s: known %d: got %v, want %v", brief(c.Rules), known, got, want)
	}
}

// expectError expects an error of Force and, if it does not come from the day, of Changes.
func expectError(t *testing.T, c api.Codex, day, known int, want api.Errno) {
	t.Helper()
	if got, e := codex.Force(c, day, known); len(got) > 0 || e != want {
		t.Errorf("%s: day %d, known %d: got %v, %v, want %v", brief(c.Rules), day, known, got, e, want)
	}
	if want == api.ErrRange && 0 <= known && known <= 36524 {
		return
	}
	if got, e := codex.Changes(c, known); len(got) > 0 || e != want {
		t.Errorf("%s: known %d: got %v, %v, want %v", brief(c.Rules), known, got, e, want)
	}
}

// expectPicture expects which version of the rule x is in force on the days 0, 1 and so on, a point standing for none, and nothing else; the same is expected at the end of all days, with all days moved.
func expectPicture(t *testing.T, picture string, known int, texts ...string) {
	t.Helper()
	for _, first := range []int{0, 1, 5000, 36525 - len(picture)} {
		c := bylaws(rules(texts...)...)
		for i := range c.Rules {
			c.Rules[i].Days.From += first
			c.Rules[i].Days.Until += first
		}
		var days []int
		before := "."
		for i := range len(picture) {
			var want []int
			if picture[i] != '.' {
				want = []int{int(picture[i] - '1')}
			}
			expectForce(t, c, first+i, known, want...)
			if after := picture[i : i+1]; after != before && first+i > 0 {
				days = append(days, first+i)
			}
			before = picture[i : i+1]
		}
		if last := first + len(picture); before != "." && last <= 36524 {
			days = append(days, last)
		}
		expectChanges(t, c, known, days...)
	}
}

// P12.1: the example of the chapter.
func TestExample(t *testing.T) {
	c := bylaws(rules("rent 0 36525 0", "rent 31 60 20")...)
	for day := range 36525 {
		expectForce(t, c, day, 10, 0)
		if day < 31 || day >= 60 {
			expectForce(t, c, day, 20, 0)
		} else {
			expectForce(t, c, day, 20, 1)
		}
	}
	expectChanges(t, c, 10)
	expectChanges(t, c, 20, 31, 60)
}

// P12.1: by-laws without rules, and without declarations.
func TestNothing(t *testing.T) {
	for _, c := range []api.Codex{{}, {Decls: []api.Decl{}, Rules: []api.Rule{}}, bylaws()} {
		if !codex.Valid(c) {
			t.Errorf("%+v is not valid", c)
		}
		for _, day := range []int{0, 1, 36523, 36524} {
			expectForce(t, c, day, day)
			expectForce(t, c, day, 36524-day)
			expectChanges(t, c, day)
		}
	}
	for _, kind := range kinds() {
		c := api.Codex{Rules: []api.Rule{plain("x", kind)}}
		if !codex.Valid(c) {
			t.Errorf("kind %d: not valid", kind)
		}
		expectForce(t, c, 0, 0, 0)
		expectForce(t, c, 36524, 36524, 0)
		expectChanges(t, c, 0)
	}
}
