package printer

import (
	"strconv"

	"cohousing/api"
)

// bylaws writes by-laws that are printable.
func (t *text) bylaws(c api.Codex) {
	for _, d := range c.Decls {
		t.fact(d)
	}
	for _, u := range c.Rules {
		t.rule(u)
	}
}

// fact writes the line of a fact.
func (t *text) fact(d api.Decl) {
	t.add("fact", d.Name, ":", unitWord(d.Unit), strconv.Itoa(d.Lo), "to", strconv.Itoa(d.Hi), ";", "\n")
}

// rule writes the line of a rule, without the parts that the parser puts in where they are missing.
func (t *text) rule(u api.Rule) {
	t.add(kindWord(u.Kind), u.Name, strconv.Itoa(u.Version))
	if u.Act != "" {
		t.add("about", u.Act)
	}
	t.add("from", strconv.Itoa(u.Days.From))
	if u.Days.Until != api.MaxDay+1 {
		t.add("until", strconv.Itoa(u.Days.Until))
	}
	t.add("known", strconv.Itoa(u.Known))
	if u.When.Op != api.OpTrue {
		t.add("when")
		t.node(u.When)
	}
	if !isNothing(u.Give) {
		t.add("give")
		t.node(u.Give)
	}
	t.add(";", "\n")
}

// isNothing reports whether a printable expression is the number 0 with the unit `number`.
func isNothing(n api.Node) bool {
	return n.Op == api.OpNumber && n.N.N == 0 && n.Unit == (api.Unit{})
}
