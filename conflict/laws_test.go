package conflict_test

import (
	"math/rand/v2"
	"slices"
	"testing"

	"cohousing/api"
	"cohousing/codex"
	"cohousing/conflict"
	"cohousing/evaluate"
)

// areWanted holds the results for by-laws against those by the chapter.
func areWanted(t *testing.T, c api.Codex, known int) (clashes []api.Clash, never []int, e api.Errno) {
	t.Helper()
	clashes, e = conflict.Clashes(c, known)
	if got, want := clashesText(clashes, e), clashesText(wantedClashes(c, known)); got != want {
		t.Fatalf("%sas known on %d: got %s, want %s", shown(c), known, got, want)
	}
	never, f := conflict.Never(c)
	if got, want := neverText(never, f), neverText(wantedNever(c)); got != want {
		t.Fatalf("%sgot %s, want %s", shown(c), got, want)
	}
	return clashes, never, e
}

// P14.1: by-laws in which nothing is wrong.
func TestRightLaws(t *testing.T) {
	clashes, never := 0, 0
	allLaws(500, func(r *rand.Rand, c api.Codex, w window) {
		some, nobody, _ := areWanted(t, c, anyKnown(r, c))
		clashes += len(some)
		never += len(nobody)
	})
	if clashes < 500 || never < 200 {
		t.Errorf("only %d clashes, %d rules for nobody", clashes, never)
	}
}

// P1 and P14.1: any by-laws, and any days of knowledge, also with expressions that contain themselves.
func TestAnyLaws(t *testing.T) {
	count := map[api.Errno]int{}
	allLaws(1500, func(r *rand.Rand, c api.Codex, w window) {
		c.Rules = c.Rules[:min(len(c.Rules), 6)]
		for range pick(r, 0, 1, 1, 2) {
			spoil(r, &c)
		}
		_, _, e := areWanted(t, c, pick(r, anyKnown(r, c), anyKnown(r, c), anyInt(r)))
		count[e]++
	})
	if count[api.OK] < 300 || count[api.ErrArg] < 300 {
		t.Errorf("only few results: %v", count)
	}
}

// clashes are those of by-laws in which nothing is wrong.
func clashes(t *testing.T, c api.Codex, known int) []api.Clash {
	t.Helper()
	all, e := conflict.Clashes(c, known)
	if e != api.OK {
		t.Fatal(shown(c), known, e)
	}
	return all
}

// P14.2: each clash is one of a duty and a ban about one act that are in force on its day, and accept its household.
func TestReal(t *testing.T) {
	count := 0
	allLaws(1500, func(r *rand.Rand, c api.Codex, w window) {
		known := anyKnown(r, c)
		for _, clash := range clashes(t, c, known) {
			duty, ban := c.Rules[clash.One], c.Rules[clash.Two]
			force, e := codex.Force(c, clash.Day, known)
			isReal := e == api.OK && slices.Contains(force, clash.One) && slices.Contains(force, clash.Two)
			isReal = isReal && duty.Kind == api.RuleDuty && ban.Kind == api.RuleBan && duty.Act == ban.Act
			isReal = isReal && evaluate.Fits(c.Decls, clash.Case) && accepts(c.Decls, duty, clash.Case) && accepts(c.Decls, ban, clash.Case)
			if !isReal {
				t.Fatalf("%sas known on %d: %s", shown(c), known, clashText(clash))
			}
			count++
		}
	})
	if count < 1500 {
		t.Errorf("only %d clashes", count)
	}
}

// anyHousehold are the values of a household for right declarations.
func anyHousehold(r *rand.Rand, l []api.Decl) []int {
	var values []int
	for _, d := range l {
		values = append(values, d.Lo+r.IntN(d.Hi-d.Lo+1))
	}
	return values
}

// P14.3 and P14.4: if on some day a duty and a ban about one act hold for a household, there is a clash of both, which has no later day and no later household.
func TestComplete(t *testing.T) {
	count := 0
	allLaws(1500, func(r *rand.Rand, c api.Codex, w window) {
		known := anyKnown(r, c)
		all := clashes(t, c, known)
		for range 20 {
			day, values := w.from+r.IntN(w.until-w.from), anyHousehold(r, c.Decls)
			duties, e := evaluate.Holds(c, api.RuleDuty, day, known, values)
			bans, f := evaluate.Holds(c, api.RuleBan, day, known, values)
			if e != api.OK || f != api.OK {
				continue
			}
			for _, i := range duties {
				for _, j := range bans {
					if c.Rules[i].Act != c.Rules[j].Act {
						continue
					}
					isClash := func(clash api.Clash) bool {
						return clash.One == i && clash.Two == j && clash.Day <= day && slices.Compare(clash.Case, values) <= 0
					}
					if !slices.ContainsFunc(all, isClash) {
						t.Fatalf("%sas known on %d: no clash of %d and %d for %v on %d", shown(c), known, i, j, values, day)
					}
					count++
				}
			}
		}
	})
	if count < 2000 {
		t.Errorf("only %d contradictions", count)
	}
}

// P14.4: on no day before that of a clash are both in force, and no household before its own is accepted by both.
func TestFirst(t *testing.T) {
	count := 0
	allLaws(400, func(r *rand.Rand, c api.Codex, w window) {
		known := anyKnown(r, c)
		for _, clash := range clashes(t, c, known) {
			for _, values := range households(c.Decls) {
				if slices.Compare(values, clash.Case) >= 0 {
					break
				}
				if accepts(c.Decls, c.Rules[clash.One], values) && accepts(c.Decls, c.Rules[clash.Two], values) {
					t.Fatalf("%sas known on %d: %s, but %v is before that", shown(c), known, clashText(clash), values)
				}
				count++
			}
			for day := max(w.from, clash.Day-20); day < clash.Day; day++ {
				force, _ := codex.Force(c, day, known)
				if slices.Contains(force, clash.One) && slices.Contains(force, clash.Two) {
					t.Fatalf("%sas known on %d: %s, but day %d is before that", shown(c), known, clashText(clash), day)
				}
				count++
			}
		}
	})
	if count < 1500 {
		t.Errorf("only %d days and households", count)
	}
}

// P14.5: a rule that Never returns accepts no household, and each other one accepts one.
func TestNobody(t *testing.T) {
	count := map[bool]int{}
	allLaws(300, func(r *rand.Rand, c api.Codex, w window) {
		never, e := conflict.Never(c)
		if e != api.OK {
			t.Fatal(shown(c), e)
		}
		for i, u := range c.Rules {
			isSome := slices.ContainsFunc(households(c.Decls), func(values []int) bool { return accepts(c.Decls, u, values) })
			if isSome == slices.Contains(never, i) {
				t.Fatalf("%srule %d: got %v", shown(c), i, never)
			}
			count[isSome]++
		}
	})
	if count[true] < 500 || count[false] < 100 {
		t.Errorf("only few rules: %v", count)
	}
}

// P14.6: each pair has one clash at most, and they are in order.
func TestPairs(t *testing.T) {
	count := 0
	allLaws(2000, func(r *rand.Rand, c api.Codex, w window) {
		all := clashes(t, c, anyKnown(r, c))
		for i := 1; i < len(all); i++ {
			if slices.Compare([]int{all[i-1].One, all[i-1].Two}, []int{all[i].One, all[i].Two}) >= 0 {
				t.Fatalf("%s%s before %s", shown(c), clashText(all[i-1]), clashText(all[i]))
			}
			count++
		}
	})
	if count < 1500 {
		t.Errorf("only %d pairs", count)
	}
}

// P14.7: a last rule that becomes known later changes nothing in the clashes; one that is known does now and then.
func TestLaterKnown(t *testing.T) {
	changed := 0
	allLaws(2000, func(r *rand.Rand, c api.Codex, w window) {
		u := anyNext(r, c.Rules, w)
		amended, e := codex.Amend(c, u)
		if e != api.OK {
			t.Fatal(shown(c), e)
		}
		if u.Known > 0 {
			for _, known := range []int{r.IntN(u.Known), u.Known - 1, 0} {
				expectClashes(t, amended, known, clashesText(clashes(t, c, known), api.OK))
			}
		}
		if clashesText(clashes(t, c, u.Known), api.OK) != clashesText(clashes(t, amended, u.Known), api.OK) {
			changed++
		}
	})
	if changed < 300 {
		t.Errorf("only %d rules that change something", changed)
	}
}
