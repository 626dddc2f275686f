package amend

import (
	"slices"

	"cohousing/api"
	"cohousing/codex"
	"cohousing/rational"
)

// gifts are what by-laws give on a day, by the names of their rules.
type gifts []named

type named struct {
	name string
	give formula
}

// newGifts returns what by-laws give on a day, once everything is known, or an error if they are not valid, or there is no such day.
func newGifts(c api.Codex, day int) (gifts, api.Errno) {
	force, e := codex.Force(c, day, api.MaxDay)
	var all gifts
	for _, i := range force {
		if r := c.Rules[i]; isGiving(r) {
			all = append(all, named{r.Name, gift(c.Decls, r)})
		}
	}
	return all, e
}

// sum returns what all gifts give together to a household. Each sum on the way must be a number, too.
func (l gifts) sum(values []int) (api.Rat, api.Errno) {
	sum := nothing()
	for _, g := range l {
		n, e := g.give(values)
		if e != api.OK {
			return api.Rat{}, e
		}
		if sum, e = rational.Add(sum, n); e != api.OK {
			return api.Rat{}, e
		}
	}
	return sum, api.OK
}

// by returns what a name gives to a household for which nothing has an error.
func (l gifts) by(name string, values []int) api.Rat {
	for _, g := range l {
		if g.name == name {
			n, _ := g.give(values)
			return n
		}
	}
	return nothing()
}

// reason returns the first name that gives something else to a household after a change than before it; there is one, because the sums differ.
func reason(before, after gifts, values []int) string {
	var names []string
	for _, g := range slices.Concat(before, after) {
		if before.by(g.name, values) != after.by(g.name, values) {
			names = append(names, g.name)
		}
	}
	return slices.Min(names)
}
