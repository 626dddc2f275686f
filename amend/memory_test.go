package amend_test

import (
	"math"
	"math/rand/v2"
	"reflect"
	"slices"
	"testing"

	"cohousing/amend"
	"cohousing/api"
)

// P1: arguments without any limits.
func TestNoLimits(t *testing.T) {
	least, most := math.MinInt, math.MaxInt
	long := string(make([]byte, 100000))
	n := api.Node{Op: most, At: least, Name: long, N: api.Rat{N: least, D: least}, Unit: api.Unit{Flag: true, Money: most}, Kids: make([]api.Node, 1000)}
	u := api.Rule{Name: long, Version: most, Kind: least, Act: long, Days: api.Span{From: least, Until: most}, Known: most, When: n, Give: n, At: least}
	right := house("right a 1 from 0 known 0 give m;")
	for _, c := range []api.Codex{
		{Rules: []api.Rule{u}},
		{Decls: []api.Decl{{Name: long, Unit: api.Unit{Flag: true, Days: least}, Lo: least, Hi: most, At: least}}},
		{Decls: []api.Decl{{Name: "a", Lo: least, Hi: most}}, Rules: right.Rules},
		{Decls: slices.Repeat(right.Decls, 10000)},
		{Rules: slices.Repeat(right.Rules, 100000)},
	} {
		for _, index := range []int{0, least, most} {
			expectCurve(t, c, index, index, make([]int, 1000000), "error 1")
			for _, laws := range [][2]api.Codex{{c, c}, {c, right}, {right, c}} {
				if got := lossText(amend.Loses(laws[0], laws[1], index)); got != "error 1" {
					t.Errorf("got %s", got)
				}
			}
		}
	}
}

// P1: expressions that contain themselves, and such that are very large or deep.
func TestEndless(t *testing.T) {
	deep, shared := api.Node{Op: api.OpTrue}, api.Node{Op: api.OpTrue}
	for range 1000000 {
		deep = node(api.OpNot, deep)
	}
	for range 64 {
		shared = node(api.OpAnd, shared, shared)
	}
	for _, n := range []api.Node{endless(), deep, shared, node(api.OpOr, make([]api.Node, 100000)...), node(api.OpOr, api.Node{Op: api.OpTrue}, endless())} {
		for _, change := range []func(u *api.Rule){func(u *api.Rule) { u.When = n }, func(u *api.Rule) { u.Give = n }} {
			right, c := house("right a 1 from 0 known 0 give m;"), house("right a 1 from 0 known 0 give m;")
			change(&c.Rules[0])
			for _, got := range []string{curveText(amend.Curve(c, 0, 0, []int{0, 0, 5, 2})), lossText(amend.Loses(c, right, 0)), lossText(amend.Loses(right, c, 0))} {
				if got != "error 1" {
					t.Errorf("got %s", got)
				}
			}
		}
	}
}

// P1: by-laws with as many rules, and as many households, as there can be; the last household loses by the last rule.
func TestMany(t *testing.T) {
	old := laws("fact a: number 0 to 15; fact b: number 1 to 16; fact c: number 2 to 17;", "charge x 1 from 0 known 0 give a * 0.01 money;")
	whens := expressions("a + b + c < 0", "a >= 0", "b < c")
	for len(old.Rules) < 100 {
		u, i := old.Rules[0], len(old.Rules)
		u.Name += string(rune('a'+i%10)) + string(rune('a'+i/10))
		u.When = whens[i%3]
		old.Rules = append(old.Rules, u)
	}
	expectLoss(t, old, old, 0, "nobody")
	changed, last := cloneLaws(old), []int{15, 16, 17}
	changed.Rules[99].When = expressions("a + b + c = 48 or a + b + c < 0")[0]
	changed.Rules[99].Give = expressions("a * 0.02 money")[0]
	was, _, _ := given(old, 0, last)
	now, _, _ := given(changed, 0, last)
	want := api.Loss{Case: last, Act: old.Rules[99].Name, Old: small(was), New: small(now)}
	expectLoss(t, old, changed, 0, lossText(want, true, api.OK))
}

// P1 and the rules: by-laws and values stay as they are, also in the room behind them, and a call has the same results each time, whatever becomes of the results.
func TestLawsStay(t *testing.T) {
	pairs(400, false, func(r *rand.Rand, old, changed api.Codex, w window) {
		before, after, day := cloneLaws(old), cloneLaws(changed), w.day(r)
		room := []int{-9, -9, -9, -9, -9, -9}
		values := append(room[:0], anyHousehold(r, theFacts)...)
		kept, rule, fact := slices.Clone(room), anyIndex(r, len(old.Rules)), anyIndex(r, 4)
		l, is, e := amend.Loses(old, changed, day)
		pieces, f := amend.Curve(old, rule, fact, values)
		loss, curve := lossText(l, is, e), curveText(pieces, f)
		for i := range l.Case {
			l.Case[i] = -5
		}
		for i := range pieces {
			pieces[i] = api.Piece{From: -5}
		}
		if !reflect.DeepEqual(cloneLaws(old), before) || !reflect.DeepEqual(cloneLaws(changed), after) || !slices.Equal(room, kept) {
			t.Fatalf("%s%sfor %v became\n%s%sfor %v", shown(before), shown(after), kept, shown(old), shown(changed), room)
		}
		expectLoss(t, old, changed, day, loss)
		expectCurve(t, old, rule, fact, values, curve)
	})
}

// P1: several calls at a time have the results of calls one behind the other.
func TestAtOneTime(t *testing.T) {
	r := rand.New(rand.NewPCG(1, 5))
	w := window{0, 4}
	old := anyLaws(r, w, 20, false)
	changed := amended(r, old, w, false)
	done := make(chan bool)
	for i := range 8 {
		go func() {
			r := rand.New(rand.NewPCG(uint64(i), 15))
			is := true
			for range 20 {
				day, rule, fact, values := w.day(r), anyIndex(r, len(old.Rules)), anyIndex(r, 4), anyHousehold(r, theFacts)
				is = is && lossText(amend.Loses(old, changed, day)) == lossText(wantedLoss(old, changed, day))
				is = is && curveText(amend.Curve(old, rule, fact, values)) == curveText(wantedCurve(old, rule, fact, values))
			}
			done <- is
		}()
	}
	for range 8 {
		if !<-done {
			t.Error("another result")
		}
	}
}
