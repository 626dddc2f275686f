package amend_test

import (
	"math/big"
	"slices"

	"cohousing/api"
	"cohousing/evaluate"
	"cohousing/piecewise"
	"cohousing/units"
)

// households are the values of all households of right declarations, in lexicographic order.
func households(l []api.Decl) [][]int {
	all := [][]int{{}}
	for _, d := range l {
		var more [][]int
		for _, values := range all {
			for value := d.Lo; value <= d.Hi; value++ {
				more = append(more, append(slices.Clone(values), value))
			}
		}
		all = more
	}
	return all
}

// bounded reports whether layer 1 has a number.
func bounded(n *big.Rat) bool {
	most := big.NewInt(1000000000)
	return new(big.Int).Abs(n.Num()).Cmp(most) <= 0 && n.Denom().Cmp(most) <= 0
}

// large is a number of layer 1 as one of any size.
func large(n api.Rat) *big.Rat { return big.NewRat(int64(n.N), int64(n.D)) }

// small is a number of any size as one of layer 1, as far as layer 1 has it.
func small(n *big.Rat) api.Rat {
	return api.Rat{N: int(n.Num().Int64()), D: int(n.Denom().Int64())}
}

// isGiving reports whether a rule is a charge or right.
func isGiving(r api.Rule) bool { return r.Kind == api.RuleCharge || r.Kind == api.RuleRight }

// gives is what a charge or right gives to a household.
func gives(l []api.Decl, r api.Rule, values []int) (*big.Rat, api.Errno) {
	when, e := evaluate.Value(l, r.When, values)
	if e != api.OK {
		return nil, e
	}
	if when != (api.Rat{N: 1, D: 1}) {
		return new(big.Rat), api.OK
	}
	give, e := evaluate.Value(l, r.Give, values)
	if e != api.OK {
		return nil, e
	}
	if r.Kind == api.RuleRight {
		return large(give), api.OK
	}
	return new(big.Rat).Neg(large(give)), api.OK
}

// wantedCurve is what Curve returns.
func wantedCurve(c api.Codex, rule, fact int, values []int) ([]api.Piece, api.Errno) {
	is := len(units.Check(c)) == 0 && 0 <= rule && rule < len(c.Rules) && 0 <= fact && fact < len(c.Decls)
	if !is || !isGiving(c.Rules[rule]) || !evaluate.Fits(c.Decls, values) {
		return nil, api.ErrArg
	}
	d := c.Decls[fact]
	if d.Hi > 100000 {
		return nil, api.ErrRange
	}
	v := map[int]*big.Rat{}
	for x := d.Lo; x <= d.Hi; x++ {
		n, e := gives(c.Decls, c.Rules[rule], slices.Concat(values[:fact], []int{x}, values[fact+1:]))
		if e != api.OK {
			return nil, e
		}
		v[x] = n
	}
	for x := d.Lo; x < d.Hi; x++ {
		if !bounded(new(big.Rat).Sub(v[x+1], v[x])) {
			return nil, api.ErrRange
		}
	}
	pieces := wantedPieces(d.Lo, d.Hi, v)
	if len(pieces) > 64 {
		return nil, api.ErrLimit
	}
	if !piecewise.Valid(pieces) {
		return nil, api.ErrRange
	}
	return pieces, api.OK
}

// wantedPieces are the pieces of the curve with some values, each of which is held against the whole line of its piece.
func wantedPieces(lo, hi int, v map[int]*big.Rat) []api.Piece {
	var pieces []api.Piece
	if lo > 0 {
		pieces = append(pieces, api.Piece{Value: small(v[lo]), Slope: api.Rat{D: 1}})
	}
	for x := lo; x <= hi; {
		slope := new(big.Rat)
		if x < hi {
			slope.Sub(v[x+1], v[x])
		}
		if x == 0 || x > lo || slope.Sign() != 0 {
			pieces = append(pieces, api.Piece{From: x, Value: small(v[x]), Slope: small(slope)})
		}
		from := x
		for isOn := true; isOn && x <= hi; {
			x++
			line := new(big.Rat).Mul(slope, big.NewRat(int64(x-from), 1))
			isOn = x <= hi && line.Add(line, v[from]).Cmp(v[x]) == 0
		}
	}
	return pieces
}

// force are the rules of valid by-laws that are in force on a day, by their indexes, once everything is known.
func force(c api.Codex, day int) []int {
	var all []int
	for i, r := range c.Rules {
		has := func(r api.Rule) bool { return r.Days.From <= day && day < r.Days.Until }
		isLater := func(other api.Rule) bool {
			return other.Name == r.Name && other.Version > r.Version && has(other)
		}
		if has(r) && !slices.ContainsFunc(c.Rules, isLater) {
			all = append(all, i)
		}
	}
	return all
}

// given is what by-laws give to a household on a day: the sum, and what each name gives.
func given(c api.Codex, day int, values []int) (*big.Rat, map[string]*big.Rat, api.Errno) {
	sum, names := new(big.Rat), map[string]*big.Rat{}
	for _, i := range force(c, day) {
		if !isGiving(c.Rules[i]) {
			continue
		}
		n, e := gives(c.Decls, c.Rules[i], values)
		if e != api.OK {
			return nil, nil, e
		}
		if sum.Add(sum, n); !bounded(sum) {
			return nil, nil, api.ErrRange
		}
		names[c.Rules[i].Name] = n
	}
	return sum, names, api.OK
}

// first is the first name that gives something else by one than by the other.
func first(old, changed map[string]*big.Rat) string {
	all := map[string]bool{}
	for name := range old {
		all[name] = true
	}
	for name := range changed {
		all[name] = true
	}
	least := ""
	for name := range all {
		was, is := old[name], changed[name]
		if was == nil {
			was = new(big.Rat)
		}
		if is == nil {
			is = new(big.Rat)
		}
		if was.Cmp(is) != 0 && (least == "" || name < least) {
			least = name
		}
	}
	return least
}

// areSame reports whether two by-laws have the same facts.
func areSame(old, changed api.Codex) bool {
	is := len(old.Decls) == len(changed.Decls)
	for i := 0; is && i < len(old.Decls); i++ {
		d, e := old.Decls[i], changed.Decls[i]
		is = d.Name == e.Name && d.Unit == e.Unit && d.Lo == e.Lo && d.Hi == e.Hi
	}
	return is
}

// wantedLoss is what Loses returns.
func wantedLoss(old, changed api.Codex, day int) (api.Loss, bool, api.Errno) {
	if len(units.Check(old)) > 0 || len(units.Check(changed)) > 0 || !areSame(old, changed) || day < 0 || day > 36524 {
		return api.Loss{}, false, api.ErrArg
	}
	for _, values := range households(old.Decls) {
		was, before, e := given(old, day, values)
		if e != api.OK {
			return api.Loss{}, false, e
		}
		is, after, e := given(changed, day, values)
		if e != api.OK {
			return api.Loss{}, false, e
		}
		if is.Cmp(was) < 0 {
			return api.Loss{Case: values, Act: first(before, after), Old: small(was), New: small(is)}, true, api.OK
		}
	}
	return api.Loss{}, false, api.OK
}
