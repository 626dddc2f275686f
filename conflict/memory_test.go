package conflict_test

import (
	"math"
	"math/rand/v2"
	"reflect"
	"slices"
	"testing"

	"cohousing/api"
	"cohousing/conflict"
)

// P1: arguments without any limits.
func TestNoLimits(t *testing.T) {
	least, most := math.MinInt, math.MaxInt
	long := string(make([]byte, 100000))
	n := api.Node{Op: most, At: least, Name: long, N: api.Rat{N: least, D: least}, Unit: api.Unit{Flag: true, Money: most}, Kids: make([]api.Node, 1000)}
	u := api.Rule{Name: long, Version: most, Kind: least, Act: long, Days: api.Span{From: least, Until: most}, Known: most, When: n, Give: n, At: least}
	right := house("duty a 1 about x from 0 known 0;")
	for _, c := range []api.Codex{
		{Rules: []api.Rule{u}},
		{Decls: []api.Decl{{Name: long, Unit: api.Unit{Flag: true, Days: least}, Lo: least, Hi: most, At: least}}},
		{Decls: slices.Repeat(right.Decls, 10000)},
		{Rules: slices.Repeat(right.Rules, 100000)},
	} {
		for _, known := range []int{0, least, most} {
			if got := clashesText(conflict.Clashes(c, known)); got != "error 1" {
				t.Errorf("got %s", got)
			}
		}
		if got := neverText(conflict.Never(c)); got != "error 1" {
			t.Errorf("got %s", got)
		}
	}
}

// P1: expressions that contain themselves, and such that are very large or deep.
func TestEndless(t *testing.T) {
	deep, shared := api.Node{Op: api.OpTrue}, api.Node{Op: api.OpTrue}
	for range 1000000 {
		deep = node(api.OpNot, deep)
	}
	for range 64 {
		shared = node(api.OpAnd, shared, shared)
	}
	for _, n := range []api.Node{endless(), deep, shared, node(api.OpOr, make([]api.Node, 100000)...), node(api.OpOr, api.Node{Op: api.OpTrue}, endless())} {
		for _, change := range []func(u *api.Rule){func(u *api.Rule) { u.When = n }, func(u *api.Rule) { u.Give = n }} {
			c := house("duty a 1 about x from 0 known 0;", "ban b 1 about x from 0 known 0;")
			change(&c.Rules[1])
			if got := clashesText(conflict.Clashes(c, 5)); got != "error 1" {
				t.Errorf("got %s", got)
			}
			if got := neverText(conflict.Never(c)); got != "error 1" {
				t.Errorf("got %s", got)
			}
		}
	}
}

// P1 and the rules: by-laws stay as they are, and a call has the same results each time, whatever becomes of the results; no two clashes share memory.
func TestLawsStay(t *testing.T) {
	allLaws(400, func(r *rand.Rand, c api.Codex, w window) {
		before, known := cloneLaws(c), anyKnown(r, c)
		all, e := conflict.Clashes(c, known)
		never, f := conflict.Never(c)
		want, nobody := clashesText(all, e), neverText(never, f)
		for i := range all {
			all[i].One, all[i].Two = -5, -5
			for j := range all[i].Case {
				if all[i].Case[j] == -5 {
					t.Fatalf("%sclash %d shares its household", shown(c), i)
				}
				all[i].Case[j] = -5
			}
		}
		for i := range never {
			never[i] = -5
		}
		if !reflect.DeepEqual(cloneLaws(c), before) {
			t.Fatalf("%sbecame\n%s", shown(before), shown(c))
		}
		expectClashes(t, c, known, want)
		if got := neverText(conflict.Never(c)); got != nobody {
			t.Fatalf("%sgot %s, want %s", shown(c), got, nobody)
		}
	})
}

// P1: several calls at a time have the results of calls one behind the other.
func TestAtOneTime(t *testing.T) {
	c, _ := anyLaws(rand.New(rand.NewPCG(1, 4)), 20)
	done := make(chan bool)
	for i := range 8 {
		go func() {
			r := rand.New(rand.NewPCG(uint64(i), 14))
			is := true
			for range 10 {
				known := anyKnown(r, c)
				is = is && clashesText(conflict.Clashes(c, known)) == clashesText(wantedClashes(c, known))
				is = is && neverText(conflict.Never(c)) == neverText(wantedNever(c))
			}
			done <- is
		}()
	}
	for range 8 {
		if !<-done {
			t.Error("another result")
		}
	}
}
