package parser

import "cohousing/api"

// bylaws reads all declarations, those behind one with an error, too.
func (r *reader) bylaws() (api.Codex, []api.Diag) {
	var c api.Codex
	var diags []api.Diag
	for !r.isAtEnd() && len(diags) < api.MaxDiags {
		if d := errorOf(func() { r.declaration(&c) }); d.E != api.OK {
			diags = append(diags, d)
			r.leaveOut()
		}
	}
	if len(diags) > 0 {
		return api.Codex{}, diags
	}
	return c, nil
}

// declaration reads a fact or a rule into by-laws.
func (r *reader) declaration(c *api.Codex) {
	first := r.peek()
	kind := kindOf(first.Text)
	if first.Text != "fact" && kind == 0 {
		r.refuse()
	}
	r.next++
	if kind == 0 {
		r.fact(c, first.At)
	} else {
		r.rule(c, first.At, kind)
	}
}

// fact reads what stands behind the first token of a fact.
func (r *reader) fact(c *api.Codex, at int) {
	d := api.Decl{At: at, Name: r.name()}
	r.need(":")
	d.Unit = r.unit()
	d.Lo = r.whole()
	r.need("to")
	d.Hi = r.whole()
	r.finish(at, len(c.Decls) == api.MaxDecls)
	c.Decls = append(c.Decls, d)
}

// rule reads what stands behind the first token of a rule.
func (r *reader) rule(c *api.Codex, at, kind int) {
	u := api.Rule{At: at, Kind: kind, Name: r.name(), Version: r.whole()}
	if r.passes("about") {
		u.Act = r.name()
	}
	r.need("from")
	u.Days = api.Span{From: r.whole(), Until: api.MaxDay + 1}
	if r.passes("until") {
		u.Days.Until = r.whole()
	}
	r.need("known")
	u.Known = r.whole()
	u.When = api.Node{Op: api.OpTrue, At: at}
	if r.passes("when") {
		u.When = r.limited()
	}
	u.Give = api.Node{Op: api.OpNumber, At: at, N: api.Rat{N: 0, D: 1}}
	if r.passes("give") {
		u.Give = r.limited()
	}
	r.finish(at, len(c.Rules) == api.MaxRules)
	c.Rules = append(c.Rules, u)
}

// finish passes the `;` of a declaration that begins at an offset. A declaration that is one too many gives up before its `;`, so that what is left out behind each error ends with the next one.
func (r *reader) finish(at int, isFull bool) {
	if r.peek().Text != ";" {
		r.refuse()
	}
	if isFull {
		fail(api.ErrLimit, at)
	}
	r.next++
}
