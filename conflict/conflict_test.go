package conflict_test

import (
	"fmt"
	"slices"
	"strings"
	"testing"

	"cohousing/api"
	"cohousing/conflict"
	"cohousing/parser"
	"cohousing/printer"
)

// theHouse declares some facts, with 72 households.
const theHouse = "fact p: flag 0 to 1; fact k: number 0 to 3; fact d: days 5 to 7; fact m: money 0 to 2;\n"

// laws are the by-laws of a source.
func laws(source ...string) api.Codex {
	c, diags := parser.Parse(strings.Join(source, "\n"))
	if len(diags) > 0 {
		panic(fmt.Sprint(source, diags))
	}
	return c
}

// house are by-laws of the house with some rules.
func house(rules ...string) api.Codex { return laws(theHouse, strings.Join(rules, "\n")) }

// clashText is how tests write a clash.
func clashText(c api.Clash) string {
	return fmt.Sprintf("%d and %d on %d for %v", c.One, c.Two, c.Day, c.Case)
}

// clashesText is how tests write what Clashes returns.
func clashesText(all []api.Clash, e api.Errno) string {
	if e != api.OK && len(all) > 0 {
		return "clashes beside an error"
	}
	if e != api.OK {
		return e.Error()
	}
	var texts []string
	for _, c := range all {
		texts = append(texts, clashText(c))
	}
	return strings.Join(texts, "; ")
}

// neverText is how tests write what Never returns.
func neverText(all []int, e api.Errno) string {
	if e != api.OK && len(all) > 0 {
		return "rules beside an error"
	}
	if e != api.OK {
		return e.Error()
	}
	return strings.Trim(fmt.Sprint(all), "[]")
}

// shown is the source of by-laws, if they have one.
func shown(c api.Codex) string {
	source, e := printer.Print(c)
	if e != api.OK {
		return "by-laws without a source"
	}
	return source
}

// expectClashes expects clashes as known on a day.
func expectClashes(t *testing.T, c api.Codex, known int, want ...string) {
	t.Helper()
	if got := clashesText(conflict.Clashes(c, known)); got != strings.Join(want, "; ") {
		t.Errorf("%sas known on %d: got %s, want %s", shown(c), known, got, want)
	}
}

// expectNever expects the rules that accept nobody.
func expectNever(t *testing.T, c api.Codex, want ...int) {
	t.Helper()
	if got := neverText(conflict.Never(c)); got != neverText(want, api.OK) {
		t.Errorf("%sgot %s, want %v", shown(c), got, want)
	}
}

// expectRefused expects that by-laws that are not valid are refused, whatever the day is.
func expectRefused(t *testing.T, c api.Codex) {
	t.Helper()
	for _, known := range []int{0, 36524, -1, 36525} {
		if got := clashesText(conflict.Clashes(c, known)); got != "error 1" {
			t.Errorf("%sas known on %d: got %s, want an error", shown(c), known, got)
		}
	}
	if got := neverText(conflict.Never(c)); got != "error 1" {
		t.Errorf("%sgot %s, want an error", shown(c), got)
	}
}

// P14.1: the example of the chapter.
func TestExample(t *testing.T) {
	c := laws(
		"fact persons: number 0 to 6;",
		"duty cook 1 about cook from 10 known 0 when persons < 4;",
		"ban quiet 1 about cook from 0 until 30 known 0 when persons > 1;",
		"right help 1 from 0 known 0 when persons < 0 give 1 money;",
	)
	for _, known := range []int{0, 1, 10, 30, 36524} {
		expectClashes(t, c, known, "0 and 1 on 10 for [2]")
	}
	expectNever(t, c, 2)
}

// P14.1: the fourth example of the document, also with the ban before the duty.
func TestTwoPersons(t *testing.T) {
	expectClashes(t, laws(
		"fact persons: number 1 to 9;",
		"ban b 1 about x from 0 known 0 when persons > 1;",
		"duty a 1 about x from 0 known 0 when persons < 4;",
	), 0, "1 and 0 on 0 for [2]")
}

// cloneNode is an expression that shares no memory with another one.
func cloneNode(n api.Node) api.Node {
	n.Kids = slices.Clone(n.Kids)
	for i, kid := range n.Kids {
		n.Kids[i] = cloneNode(kid)
	}
	return n
}

// cloneLaws are by-laws that share no memory with others.
func cloneLaws(c api.Codex) api.Codex {
	c.Decls, c.Rules = slices.Clone(c.Decls), slices.Clone(c.Rules)
	for i, r := range c.Rules {
		c.Rules[i].When, c.Rules[i].Give = cloneNode(r.When), cloneNode(r.Give)
	}
	return c
}
