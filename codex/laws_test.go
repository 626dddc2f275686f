package codex_test

import (
	"math/rand/v2"
	"slices"
	"testing"

	"cohousing/api"
	"cohousing/codex"
	"cohousing/units"
)

// isWanted holds the results for by-laws against those by the chapter.
func isWanted(t *testing.T, c api.Codex, r api.Rule, day, known int) (force, amend api.Errno) {
	t.Helper()
	if got, want := codex.Valid(c), len(units.Check(c)) == 0; got != want {
		t.Fatalf("%s: got %v, want %v", brief(c.Rules), got, want)
	}
	indexes, e := codex.Force(c, day, known)
	if want, f := wantedForce(c, day, known); !slices.Equal(indexes, want) || e != f {
		t.Fatalf("%s: day %d, known %d: got %v, %v, want %v, %v", brief(c.Rules), day, known, indexes, e, want, f)
	}
	amended, g := codex.Amend(c, r)
	if want, h := wantedAmend(c, r); g != h || !isSame(amended, want) {
		t.Fatalf("%s behind%s: got%s, %v, want%s, %v", brief([]api.Rule{r}), brief(c.Rules), brief(amended.Rules), g, brief(want.Rules), h)
	}
	return e, g
}

// areWantedChanges holds the changes of by-laws against those by the chapter.
func areWantedChanges(t *testing.T, c api.Codex, known int) {
	t.Helper()
	got, e := codex.Changes(c, known)
	if want, f := wantedChanges(c, known); !slices.Equal(got, want) || e != f {
		t.Fatalf("%s: known %d: got %v, %v, want %v, %v", brief(c.Rules), known, got, e, want, f)
	}
}

// P12.1: by-laws in which nothing is wrong, on their days and beside them.
func TestRightBylaws(t *testing.T) {
	forces, amends := map[api.Errno]int{}, map[api.Errno]int{}
	allBylaws(3000, func(r *rand.Rand, c api.Codex, w window) {
		for range 6 {
			e, f := isWanted(t, c, anyNext(r, c.Rules, w), w.day(r), known(r, c))
			forces[e]++
			amends[f]++
		}
		if r.IntN(3) == 0 {
			areWantedChanges(t, c, known(r, c))
		}
	})
	if forces[api.OK] < 10000 || forces[api.ErrRange] < 500 || amends[api.OK] < 15000 {
		t.Errorf("only few results: %v, %v", forces, amends)
	}
}

// P1 and P12.1: any by-laws, any rules and any days, also with expressions that contain themselves.
func TestAnyBylaws(t *testing.T) {
	forces, amends := map[api.Errno]int{}, map[api.Errno]int{}
	allBylaws(8000, func(r *rand.Rand, c api.Codex, w window) {
		u := anyNext(r, c.Rules, w)
		if len(c.Rules) > 0 && r.IntN(6) == 0 {
			u = c.Rules[r.IntN(len(c.Rules))]
		}
		for range r.IntN(3) {
			spoilRule(r, &u)
		}
		for range pick(r, 0, 0, 0, 1, 2) {
			spoil(r, &c)
		}
		e, f := isWanted(t, c, u, pick(r, w.day(r), anyInt(r)), pick(r, known(r, c), anyInt(r)))
		forces[e]++
		amends[f]++
		if r.IntN(8) == 0 {
			areWantedChanges(t, c, pick(r, known(r, c), anyInt(r)))
		}
	})
	for _, e := range []api.Errno{api.OK, api.ErrArg, api.ErrTwice, api.ErrState, api.ErrRange, api.ErrScope, api.ErrName, api.ErrUnit} {
		if amends[e] < 50 {
			t.Errorf("only few amendments: %v", amends)
		}
	}
	if forces[api.OK] < 1000 || forces[api.ErrArg] < 1000 || forces[api.ErrRange] < 1000 {
		t.Errorf("only few results: %v", forces)
	}
}

// P12.2: at most one rule of each name is in force, and it is known and has the day.
func TestOneVersion(t *testing.T) {
	count := 0
	allBylaws(3000, func(r *rand.Rand, c api.Codex, w window) {
		for range 5 {
			day, asked := min(36524, max(0, w.day(r))), known(r, c)
			names := map[string]bool{}
			for _, i := range force(t, c, day, asked) {
				u := c.Rules[i]
				if names[u.Name] || day < u.Days.From || day >= u.Days.Until || u.Known > asked {
					t.Fatalf("%s: day %d, known %d: %d is in force", brief(c.Rules), day, asked, i)
				}
				names[u.Name] = true
				count++
			}
		}
	})
	if count < 10000 {
		t.Errorf("only %d rules in force", count)
	}
}

// P12.3: without the rules that become known later, the same rules are in force, and change on the same days.
func TestLaterKnown(t *testing.T) {
	count := 0
	allBylaws(3000, func(r *rand.Rand, c api.Codex, w window) {
		asked := known(r, c)
		less := api.Codex{Decls: c.Decls}
		var places []int
		for i, u := range c.Rules {
			if u.Known <= asked {
				less.Rules = append(less.Rules, u)
				places = append(places, i)
			}
		}
		if len(less.Rules) < len(c.Rules) {
			count++
		}
		for range 5 {
			day := min(36524, max(0, w.day(r)))
			var want []int
			for _, i := range force(t, less, day, asked) {
				want = append(want, places[i])
			}
			expectForce(t, c, day, asked, want...)
			// Whatever is known in the end is known as well on the day asked.
			expectForce(t, less, day, 36524, force(t, less, day, asked)...)
		}
		expectChanges(t, less, asked, changes(t, c, asked)...)
	})
	if count < 1000 {
		t.Errorf("only %d by-laws with later rules", count)
	}
}

// P12.4: from one change to the next one the same rules are in force on all days, and others on the day of a change.
func TestBetweenChanges(t *testing.T) {
	count := 0
	r := dice()
	for range 40 {
		c, w := anyBylaws(r, 6)
		asked := known(r, c)
		days := changes(t, c, asked)
		count += len(days)
		from, until := w.from, w.until
		if until-from > 100 {
			from = r.IntN(30000)
			until = from + 6000
		}
		before := force(t, c, from, asked)
		for day := from + 1; day < until; day++ {
			after := force(t, c, day, asked)
			if isChange := slices.Contains(days, day); slices.Equal(before, after) == isChange {
				t.Fatalf("%s: known %d: %v on day %d, %v before, changes %v", brief(c.Rules), asked, after, day, before, days)
			}
			before = after
		}
	}
	if count < 50 {
		t.Errorf("only %d changes", count)
	}
	allBylaws(1500, func(r *rand.Rand, c api.Codex, w window) {
		asked := known(r, c)
		ends := append(append([]int{0}, changes(t, c, asked)...), 36525)
		for i, end := range ends[1:] {
			first, last := force(t, c, ends[i], asked), force(t, c, end-1, asked)
			between := force(t, c, ends[i]+r.IntN(end-ends[i]), asked)
			if !slices.Equal(first, last) || !slices.Equal(first, between) {
				t.Fatalf("%s: known %d: %v, %v and %v from %d to %d", brief(c.Rules), asked, first, between, last, ends[i], end)
			}
			if end < 36525 && slices.Equal(last, force(t, c, end, asked)) {
				t.Fatalf("%s: known %d: %v before and on day %d", brief(c.Rules), asked, last, end)
			}
		}
	})
}

// P12.5: by a new rule, other rules are in force only on its own days, as known on its Known or later; there it is in force instead of the earlier versions.
func TestOwnDays(t *testing.T) {
	count := map[bool]int{}
	allBylaws(3000, func(r *rand.Rand, c api.Codex, w window) {
		u := anyNext(r, c.Rules, w)
		amended, e := codex.Amend(c, u)
		if e == api.ErrLimit && len(c.Rules) == 100 {
			return
		}
		if e != api.OK {
			t.Fatalf("%s behind%s: %v", brief([]api.Rule{u}), brief(c.Rules), e)
		}
		for range 6 {
			day := min(36524, max(0, pick(r, w.day(r), u.Days.From, u.Days.From-1, u.Days.Until-1, u.Days.Until)))
			asked := min(36524, max(0, pick(r, known(r, c), u.Known, u.Known-1, u.Known+1)))
			want := force(t, c, day, asked)
			isOwn := u.Days.From <= day && day < u.Days.Until && u.Known <= asked
			if isOwn {
				want = slices.DeleteFunc(want, func(i int) bool { return c.Rules[i].Name == u.Name })
				want = append(want, len(c.Rules))
			}
			expectForce(t, amended, day, asked, want...)
			count[isOwn]++
		}
		if u.Known > 0 {
			asked := r.IntN(u.Known)
			expectChanges(t, amended, asked, changes(t, c, asked)...)
		}
	})
	if count[true] < 3000 || count[false] < 3000 {
		t.Errorf("only few days: %v", count)
	}
}

// P12.6: two neighbouring rules of different names can be exchanged.
func TestExchanged(t *testing.T) {
	count := 0
	allBylaws(4000, func(r *rand.Rand, c api.Codex, w window) {
		if len(c.Rules) < 2 {
			return
		}
		i := r.IntN(len(c.Rules) - 1)
		if c.Rules[i].Name == c.Rules[i+1].Name {
			return
		}
		other := api.Codex{Decls: c.Decls, Rules: slices.Clone(c.Rules)}
		other.Rules[i], other.Rules[i+1] = c.Rules[i+1], c.Rules[i]
		if !codex.Valid(other) {
			t.Fatalf("%s: not valid", brief(other.Rules))
		}
		for range 5 {
			day, asked := min(36524, max(0, w.day(r))), known(r, c)
			var want []int
			for _, k := range force(t, c, day, asked) {
				switch k {
				case i:
					k = i + 1
				case i + 1:
					k = i
				}
				want = append(want, k)
			}
			slices.Sort(want)
			expectForce(t, other, day, asked, want...)
			expectChanges(t, other, asked, changes(t, c, asked)...)
		}
		count++
	})
	if count < 1000 {
		t.Errorf("only %d exchanged", count)
	}
}

// P12.7: a version that is there already, that leaves one out, that becomes known before the one before it, or that has another kind or act, is refused.
func TestRefusals(t *testing.T) {
	count := 0
	allBylaws(3000, func(r *rand.Rand, c api.Codex, w window) {
		if len(c.Rules) == 0 || len(c.Rules) == 100 {
			return
		}
		name := c.Rules[r.IntN(len(c.Rules))].Name
		u := next(r, c.Rules, w, name, 0)
		expectAmended(t, c, u)
		expectRefused(t, c, changed(u, func(u *api.Rule) { u.Version = 1 + r.IntN(u.Version-1) }), api.ErrTwice)
		expectRefused(t, c, changed(u, func(u *api.Rule) { u.Version += 1 + r.IntN(1000) }), api.ErrState)
		expectRefused(t, c, changed(u, func(u *api.Rule) { u.Version = -r.IntN(1000) }), api.ErrState)
		for _, other := range c.Rules {
			if other.Name == name && other.Version == u.Version-1 {
				expectRefused(t, c, changed(u, func(u *api.Rule) { u.Known = other.Known - 1 - r.IntN(1000) }), api.ErrState)
				expectAmended(t, c, changed(u, func(u *api.Rule) { u.Known = other.Known }))
			}
		}
		expectRefused(t, c, changed(u, func(u *api.Rule) { u.Kind = 1 + u.Kind%7 }), api.ErrScope)
		expectRefused(t, c, changed(u, func(u *api.Rule) { u.Act = "other" }), api.ErrScope)
		count++
	})
	if count < 2000 {
		t.Errorf("only %d by-laws", count)
	}
}
