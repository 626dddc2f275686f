package codex

import (
	"slices"

	"cohousing/api"
)

// versionError says why a rule cannot follow the versions of it that are there, if it cannot.
func versionError(rules []api.Rule, r api.Rule) api.Errno {
	next, known := 1, r.Known
	for _, other := range rules {
		if other.Name != r.Name {
			continue
		}
		if other.Version == r.Version {
			return api.ErrTwice
		}
		next, known = other.Version+1, other.Known
	}
	if r.Version != next || r.Known < known {
		return api.ErrState
	}
	return api.OK
}

// copied are valid by-laws that share no memory with others.
func copied(c api.Codex) api.Codex {
	c.Decls, c.Rules = slices.Clone(c.Decls), slices.Clone(c.Rules)
	for i, r := range c.Rules {
		c.Rules[i].When, c.Rules[i].Give = copiedNode(r.When), copiedNode(r.Give)
	}
	return c
}

func copiedNode(n api.Node) api.Node {
	n.Kids = slices.Clone(n.Kids)
	for i, kid := range n.Kids {
		n.Kids[i] = copiedNode(kid)
	}
	return n
}
