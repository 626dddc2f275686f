package amend_test

import (
	"fmt"
	"slices"
	"strings"
	"testing"

	"cohousing/amend"
	"cohousing/api"
	"cohousing/parser"
	"cohousing/printer"
	"cohousing/rational"
)

// theHouse declares some facts, with 90 households.
const theHouse = "fact p: flag 0 to 1; fact k: number 0 to 4; fact d: days 5 to 7; fact m: money 2 to 4;\n"

// laws are the by-laws of a source.
func laws(source ...string) api.Codex {
	c, diags := parser.Parse(strings.Join(source, "\n"))
	if len(diags) > 0 {
		panic(fmt.Sprint(source, diags))
	}
	return c
}

// house are by-laws of the house with some rules.
func house(rules ...string) api.Codex { return laws(theHouse, strings.Join(rules, "\n")) }

// numberText is how tests write a number.
func numberText(n api.Rat) string {
	text, e := rational.Text(n)
	if e != api.OK {
		return "no number"
	}
	return text
}

// curveText is how tests write what Curve returns: the From, the Value and the Slope of each piece.
func curveText(pieces []api.Piece, e api.Errno) string {
	if e != api.OK && len(pieces) > 0 {
		return "pieces beside an error"
	}
	if e != api.OK {
		return e.Error()
	}
	var texts []string
	for _, p := range pieces {
		texts = append(texts, fmt.Sprintf("%d: %s %s", p.From, numberText(p.Value), numberText(p.Slope)))
	}
	return strings.Join(texts, "; ")
}

// lossText is how tests write what Loses returns.
func lossText(l api.Loss, is bool, e api.Errno) string {
	isNone := len(l.Case) == 0 && l.Act == "" && l.Old == api.Rat{} && l.New == api.Rat{}
	switch {
	case !is && !isNone, is && e != api.OK:
		return "a loss beside an error or beside false"
	case e != api.OK:
		return e.Error()
	case !is:
		return "nobody"
	}
	return fmt.Sprintf("%v by %s: %s, not %s", l.Case, l.Act, numberText(l.New), numberText(l.Old))
}

// shown is the source of by-laws, if they have one.
func shown(c api.Codex) string {
	source, e := printer.Print(c)
	if e != api.OK {
		return "by-laws without a source\n"
	}
	return source
}

// expectCurve expects a curve, or an error.
func expectCurve(t *testing.T, c api.Codex, rule, fact int, values []int, want string) {
	t.Helper()
	if got := curveText(amend.Curve(c, rule, fact, values)); got != want {
		t.Errorf("%srule %d, fact %d, %v: got %s, want %s", shown(c), rule, fact, values, got, want)
	}
}

// expectLoss expects who loses by new by-laws on a day, or an error.
func expectLoss(t *testing.T, old, new api.Codex, day int, want string) {
	t.Helper()
	if got := lossText(amend.Loses(old, new, day)); got != want {
		t.Errorf("%s%son day %d: got %s, want %s", shown(old), shown(new), day, got, want)
	}
}

// P15.1: the examples of the chapter.
func TestExample(t *testing.T) {
	const rooms = "fact rooms: number 1 to 5; charge rent %d from %d known 0 give if rooms < 3 then 1 money else rooms * %s money;"
	old := laws(fmt.Sprintf(rooms, 1, 0, "0.50"))
	for own := 1; own <= 5; own++ {
		expectCurve(t, old, 0, 0, []int{own}, "0: -100 0; 3: -150 -50")
	}
	changed := laws(fmt.Sprintf(rooms, 1, 0, "0.60"))
	expectLoss(t, old, changed, 0, "[3] by rent: -180, not -150")
	expectLoss(t, changed, old, 0, "nobody")
	expectLoss(t, old, old, 0, "nobody")
	amended := laws(fmt.Sprintf(rooms, 1, 0, "0.50"))
	amended.Rules = append(amended.Rules, laws(fmt.Sprintf(rooms, 1, 31, "0.60")).Rules[0])
	amended.Rules[1].Version = 2
	expectLoss(t, old, amended, 30, "nobody")
	expectLoss(t, old, amended, 31, "[3] by rent: -180, not -150")
	expectLoss(t, amended, old, 31, "nobody")
	expectCurve(t, amended, 1, 0, []int{1}, "0: -100 0; 3: -180 -60")
}

// cloneNode is an expression that shares no memory with another one.
func cloneNode(n api.Node) api.Node {
	n.Kids = slices.Clone(n.Kids)
	for i, kid := range n.Kids {
		n.Kids[i] = cloneNode(kid)
	}
	return n
}

// cloneLaws are by-laws that share no memory with others.
func cloneLaws(c api.Codex) api.Codex {
	c.Decls, c.Rules = slices.Clone(c.Decls), slices.Clone(c.Rules)
	for i, r := range c.Rules {
		c.Rules[i].When, c.Rules[i].Give = cloneNode(r.When), cloneNode(r.Give)
	}
	return c
}
