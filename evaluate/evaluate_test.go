package evaluate_test

import (
	"slices"
	"strconv"
	"strings"
	"testing"

	"cohousing/api"
	"cohousing/evaluate"
	"cohousing/parser"
	"cohousing/printer"
	"cohousing/rational"
)

// theHouse declares a fact of each basic unit.
const theHouse = "fact p: flag 0 to 1; fact k: number 0 to 7; fact m: money 0 to 7; fact a: area 1 to 4; fact d: days 5 to 8;\n"

// bylaws are those of a source.
func bylaws(source string) api.Codex {
	c, diags := parser.Parse(source)
	if len(diags) > 0 {
		panic(source)
	}
	return c
}

// theFacts are the same in all tests.
var theFacts = bylaws(theHouse).Decls

// house are the declarations of the house.
func house() []api.Decl { return slices.Clone(theFacts) }

// laws are by-laws of the house with some rules.
func laws(rules ...string) api.Codex {
	c := bylaws(theHouse + strings.Join(rules, "\n"))
	for i, r := range c.Rules {
		c.Rules[i].When, c.Rules[i].Give = filled(r.When), filled(r.Give)
	}
	return c
}

// tenant are the values of a household of the house.
func tenant() []int { return []int{1, 3, 5, 2, 6} }

// expression is that of a source, in which billion and billionth stand for numbers at the bounds of layer 1: a source has no digits for them.
func expression(source string) api.Node {
	n, e, _ := parser.Expr(source)
	if e != api.OK {
		panic(source)
	}
	return filled(n)
}

// filled has numbers for the facts billion and billionth.
func filled(n api.Node) api.Node {
	switch n.Name {
	case "billion":
		return api.Node{Op: api.OpNumber, N: api.Rat{N: 1000000000, D: 1}, At: n.At}
	case "billionth":
		return api.Node{Op: api.OpNumber, N: api.Rat{N: 1, D: 1000000000}, At: n.At}
	}
	for i, kid := range n.Kids {
		n.Kids[i] = filled(kid)
	}
	return n
}

// errorName is how tests write an error.
func errorName(e api.Errno) string {
	switch e {
	case api.ErrArg:
		return "ErrArg"
	case api.ErrRange:
		return "ErrRange"
	case api.ErrZero:
		return "ErrZero"
	}
	return "another error, " + e.Error()
}

// valueText is how tests write a value or an error.
func valueText(n api.Rat, e api.Errno) string {
	if e != api.OK && n != (api.Rat{}) {
		return "a value beside " + errorName(e)
	}
	if e != api.OK {
		return errorName(e)
	}
	text, f := rational.Text(n)
	if f != api.OK {
		return "no number"
	}
	return text
}

// indexText is how tests write indexes of rules.
func indexText(indexes []int) string {
	var texts []string
	for _, i := range indexes {
		texts = append(texts, strconv.Itoa(i))
	}
	return strings.Join(texts, " ")
}

// holdsText is how tests write what Holds returns: the indexes, or an error.
func holdsText(indexes []int, e api.Errno) string {
	if e != api.OK && len(indexes) > 0 {
		return "rules beside " + errorName(e)
	}
	if e != api.OK {
		return errorName(e)
	}
	return indexText(indexes)
}

// owesText is how tests write what Owes returns: the cents and the indexes, or an error.
func owesText(cents int, indexes []int, e api.Errno) string {
	if e != api.OK && (cents != 0 || len(indexes) > 0) {
		return "an amount beside " + errorName(e)
	}
	if e != api.OK {
		return errorName(e)
	}
	return strings.TrimSpace(strconv.Itoa(cents) + ": " + indexText(indexes))
}

// shown is the source of an expression, if it has one.
func shown(n api.Node) string {
	source, e := printer.Expr(n)
	if e != api.OK {
		return "an expression without a source"
	}
	return source
}

// shownLaws is the source of by-laws, if they have one.
func shownLaws(c api.Codex) string {
	source, e := printer.Print(c)
	if e != api.OK {
		return "by-laws without a source"
	}
	return source
}

// expectNode expects the value of an expression, or an error.
func expectNode(t *testing.T, l []api.Decl, n api.Node, values []int, want string) {
	t.Helper()
	if got := valueText(evaluate.Value(l, n, values)); got != want {
		t.Errorf("%s for %v: got %s, want %s", shown(n), values, got, want)
	}
}

// expectValue expects the value of a source for the tenant, or an error.
func expectValue(t *testing.T, source, want string) {
	t.Helper()
	if got := valueText(evaluate.Value(house(), expression(source), tenant())); got != want {
		t.Errorf("%s: got %s, want %s", source, got, want)
	}
}

// expectHolds expects which rules hold for the tenant on a day on which everything is known, or an error.
func expectHolds(t *testing.T, c api.Codex, kind, day int, want string) {
	t.Helper()
	if got := holdsText(evaluate.Holds(c, kind, day, 36524, tenant())); got != want {
		t.Errorf("%skind %d on day %d: got %q, want %q", shownLaws(c), kind, day, got, want)
	}
}

// expectOwes expects what the tenant owes for a month, and by which rules, or an error.
func expectOwes(t *testing.T, c api.Codex, month int, want string) {
	t.Helper()
	if got := owesText(evaluate.Owes(c, month, 36524, tenant())); got != want {
		t.Errorf("%smonth %d: got %q, want %q", shownLaws(c), month, got, want)
	}
}

// kinds are those of rules.
func kinds() []int {
	return []int{api.RuleCharge, api.RuleRight, api.RuleDuty, api.RuleBan, api.RuleRooms, api.RuleVote, api.RuleNotice}
}

// P13.1: the examples of the chapter.
func TestExamples(t *testing.T) {
	l := bylaws("fact persons: number 0 to 6; fact rent: money 0 to 500;").Decls
	for source, want := range map[string]string{
		"rent / persons * 3":                 "450",
		"if persons < 3 then 1 else 1 / 0":   "1",
		"rent / (persons - 2)":               "ErrZero",
		"persons < 2 or rent = 3 money":      "1",
		"persons < 2 or rent = 2.99 money":   "0",
		"persons < 2 or rent = 300":          "ErrArg",
		"if persons < 2 then 1 else 1 / 0":   "ErrZero",
		"rent / persons * 3 + 0 * rent / 1":  "450",
		"rent / persons * 3 = 4.50 money":    "1",
		"(rent - 3 money) / (persons - 1)":   "0",
		"min(rent, 3 money) * (persons - 2)": "0",
	} {
		expectNode(t, l, expression(source), []int{2, 300}, want)
	}
	expectOwes(t, laws(
		"charge half 1 from 0 known 0 give 0.01 money / 2;",
		"charge third 1 from 0 known 0 give 0.01 money / 3;",
		"right help 1 from 0 known 0 give 0.07 money;",
	), 0, "-6: 0 1 2")
}

// P13.1: the third example of the document.
func TestRooms(t *testing.T) {
	c := bylaws("fact rooms: number 1 to 5; charge rent 1 from 0 known 0 give rooms * 12.50 money;")
	for rooms := range 7 {
		want := strconv.Itoa(rooms*1250) + ": 0"
		if rooms < 1 || rooms > 5 {
			want = "ErrArg"
		}
		if got := owesText(evaluate.Owes(c, 7, 0, []int{rooms})); got != want {
			t.Errorf("%d rooms: got %s, want %s", rooms, got, want)
		}
	}
}

// cloneNode is an expression that shares no memory with another one.
func cloneNode(n api.Node) api.Node {
	n.Kids = slices.Clone(n.Kids)
	for i, kid := range n.Kids {
		n.Kids[i] = cloneNode(kid)
	}
	return n
}

// cloneLaws are by-laws that share no memory with others.
func cloneLaws(c api.Codex) api.Codex {
	c.Decls, c.Rules = slices.Clone(c.Decls), slices.Clone(c.Rules)
	for i, r := range c.Rules {
		c.Rules[i].When, c.Rules[i].Give = cloneNode(r.When), cloneNode(r.Give)
	}
	return c
}
