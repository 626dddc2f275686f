package units

import "cohousing/api"

// maxValue is the greatest number that a fact can be.
const maxValue = 1000000

// factErrors returns what is wrong with declarations that are well-formed.
func factErrors(l []api.Decl) []api.Diag {
	var diags []api.Diag
	names := map[string]bool{}
	cases := 1
	for _, d := range l {
		if isBounded(d) {
			// What is too large stays so; how large it is does not matter, and might be no int.
			cases = min(cases*(d.Hi-d.Lo+1), api.MaxCases+1)
		}
		switch {
		case names[d.Name]:
			diags = append(diags, api.Diag{At: d.At, E: api.ErrTwice})
		case !isBounded(d):
			diags = append(diags, api.Diag{At: d.At, E: api.ErrRange})
		case cases > api.MaxCases:
			diags = append(diags, api.Diag{At: d.At, E: api.ErrLimit})
		}
		names[d.Name] = true
	}
	return diags
}

// isBounded reports whether the bounds of a declaration are right.
func isBounded(d api.Decl) bool {
	most := maxValue
	if d.Unit.Flag {
		most = 1
	}
	return 0 <= d.Lo && d.Lo <= d.Hi && d.Hi <= most
}
