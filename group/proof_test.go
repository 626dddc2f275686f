package group_test

import (
	"testing"

	"cohousing/api"
	"cohousing/group"
)

// proved is a proof with what it was made of.
type proved struct {
	base, other, x, once int
	s                    api.Sig
}

// proofs calls a function with proofs for many bases, also equal ones, and secrets.
func proofs(t *testing.T, do func(x proved)) {
	r := dice()
	for _, base := range bases() {
		for _, other := range bases() {
			for range 4 {
				x, once := secrets()[r.IntN(len(secrets()))], secrets()[r.IntN(len(secrets()))]
				do(proved{base, other, x, once, must[api.Sig](t)(group.Same(base, other, x, once))})
			}
		}
	}
}

// equal compares Equal with what it should return, and returns this.
func equal(t *testing.T, base, a, other, b int, s api.Sig) bool {
	t.Helper()
	got, e := group.Equal(base, a, other, b, s)
	want, wrong := wantedEqual(base, a, other, b, s)
	if got != want || e != wrong {
		t.Fatalf("Equal(%d, %d, %d, %d, %v): %v, %v; want %v, %v", base, a, other, b, s, got, e, want, wrong)
	}
	return got
}

// P8.1 and P1, H7: all pairs of bases, with all secrets.
func TestSame(t *testing.T) {
	for _, bases := range [][2]int{{4, 9}, {9, 4}, {4, 4}, {p - 2, 3}, {1, 9}, {4, 1}, {2, 9}, {4, 2}, {p - 1, 9}, {4, p - 1}, {0, 9}, {4, 0}, {p, 9}, {4, p + 9}, {-4, 9}, {4, -9}} {
		all := append(exponents(), excesses()...)
		for _, x := range all {
			for _, once := range all {
				got, e := group.Same(bases[0], bases[1], x, once)
				if want, wrong := wantedSame(bases[0], bases[1], x, once); got != want || e != wrong {
					t.Fatalf("Same(%v, %d, %d): %v, %v; want %v, %v", bases, x, once, got, e, want, wrong)
				}
			}
		}
	}
}

// P1, H7: any integers in each place.
func TestErrorsOfSame(t *testing.T) {
	for _, base := range append(numbers(), strangers()...) {
		for _, other := range append(numbers(), strangers()...) {
			for _, x := range numbers() {
				for _, once := range []int{0, 1, q - 1, q, -1} {
					got, e := group.Same(base, other, x, once)
					if want, wrong := wantedSame(base, other, x, once); got != want || e != wrong {
						t.Fatalf("Same(%d, %d, %d, %d): %v, %v; want %v, %v", base, other, x, once, got, e, want, wrong)
					}
				}
			}
		}
	}
}

// P8.1, H7, and P8.6: a proof that was made is right for the powers of both bases.
func TestMadeIsRight(t *testing.T) {
	proofs(t, func(x proved) {
		if want, _ := wantedSame(x.base, x.other, x.x, x.once); x.s != want {
			t.Fatalf("%v; want %v", x, want)
		}
		if !equal(t, x.base, raised(x.base, x.x), x.other, raised(x.other, x.x), x.s) {
			t.Fatalf("%v is not right", x)
		}
	})
}

// P8.6: a proof with another S, or another C, is right only if the challenge agrees; none of these is.
func TestChangedProof(t *testing.T) {
	proofs(t, func(x proved) {
		a, b := raised(x.base, x.x), raised(x.other, x.x)
		for _, s := range otherExponents(x.s.S) {
			if equal(t, x.base, a, x.other, b, api.Sig{C: x.s.C, S: s}) {
				t.Fatalf("%v: S %d", x, s)
			}
		}
		for _, c := range otherExponents(x.s.C)[:12] {
			if equal(t, x.base, a, x.other, b, api.Sig{C: c, S: x.s.S}) {
				t.Fatalf("%v: C %d", x, c)
			}
		}
		if x.s.C != x.s.S && equal(t, x.base, a, x.other, b, api.Sig{C: x.s.S, S: x.s.C}) {
			t.Fatalf("%v: C and S exchanged", x)
		}
	})
}

// P8.1, H8: a proof for another base or element is right only if the challenge agrees; none of these is.
func TestProofForOthers(t *testing.T) {
	proofs(t, func(x proved) {
		a, b := raised(x.base, x.x), raised(x.other, x.x)
		for _, n := range elements() {
			if n != a && equal(t, x.base, n, x.other, b, x.s) || n != b && equal(t, x.base, a, x.other, n, x.s) {
				t.Fatalf("%v: the element %d", x, n)
			}
			if n == 1 {
				continue
			}
			if n != x.base && equal(t, n, a, x.other, b, x.s) || n != x.other && equal(t, x.base, a, n, b, x.s) {
				t.Fatalf("%v: the base %d", x, n)
			}
		}
		if x.base != x.other && equal(t, x.other, b, x.base, a, x.s) {
			t.Fatalf("%v: the bases exchanged", x)
		}
		if a != b && equal(t, x.base, b, x.other, a, x.s) {
			t.Fatalf("%v: the elements exchanged", x)
		}
	})
}

// P8.6: proofs with a C or S of 0 and of Q - 1 are made, and are right.
func TestEndsOfProofs(t *testing.T) {
	for _, x := range []proved{
		{4, 9, 5, 70841169, api.Sig{C: 0, S: 70841169}},
		{4, 9, 7, 800843793, api.Sig{C: 0, S: 800843793}},
		{4, 9, 5, 844817316, api.Sig{C: q - 1, S: 844817311}},
		{4, 9, 6, mod(0, -6, 680909583), api.Sig{C: 680909583, S: 0}},
		{4, 9, 5, mod(-1, -5, 374644279), api.Sig{C: 374644279, S: q - 1}},
		{4, 9, 6, mod(-1, -6, 520546506), api.Sig{C: 520546506, S: q - 1}},
	} {
		if s := must[api.Sig](t)(group.Same(x.base, x.other, x.x, x.once)); s != x.s {
			t.Errorf("%v: %v", x, s)
		}
		a, b := raised(x.base, x.x), raised(x.other, x.x)
		if !equal(t, x.base, a, x.other, b, x.s) {
			t.Errorf("%v is not right", x)
		}
		for _, other := range []api.Sig{{C: x.s.C, S: x.s.S + q}, {C: x.s.C + q, S: x.s.S}, {C: x.s.C - q, S: x.s.S}, {C: x.s.C, S: x.s.S - q}} {
			if equal(t, x.base, a, x.other, b, other) {
				t.Errorf("%v", other)
			}
		}
	}
}

// P8.6: a proof is right by its challenge alone: with another S, and even for elements whose exponents differ.
func TestChallengeAgrees(t *testing.T) {
	for _, x := range []struct {
		a, b int
		s    api.Sig
	}{
		{1024, 59049, api.Sig{C: 44001584, S: 785302803}},
		{16384, 4782969, api.Sig{C: 255433939, S: 4864326}},
		{65536, 43046721, api.Sig{C: 322548934, S: 90860593}},
		{1024, 531441, api.Sig{C: 0, S: 440613418}},
		{4096, 4782969, api.Sig{C: 0, S: 221767974}},
		{1024, 531441, api.Sig{C: 1, S: 599085964}},
		{16384, 43046721, api.Sig{C: 1, S: 164482383}},
	} {
		if !equal(t, 4, x.a, 9, x.b, x.s) {
			t.Errorf("%v is not right", x)
		}
		for _, s := range otherExponents(x.s.S) {
			if equal(t, 4, x.a, 9, x.b, api.Sig{C: x.s.C, S: s}) {
				t.Errorf("%v, with S %d", x, s)
			}
		}
	}
	for x, want := range map[int]api.Sig{5: {C: 44001584, S: 220007927}, 7: {C: 255433939, S: 714295791}, 8: {C: 322548934, S: 432907901}} {
		if s := must[api.Sig](t)(group.Same(4, 9, x, 7)); s != want {
			t.Errorf("Same(4, 9, %d, 7): %v", x, s)
		}
	}
}

// P8.1, H8: 1 is an element for which a proof can be right, but no base.
func TestOneInProofs(t *testing.T) {
	for _, s := range exponents() {
		c := wantedChallenge(4, 1, 9, 1, raised(4, s), raised(9, s))
		if !equal(t, 4, 1, 9, 1, api.Sig{C: c, S: s}) {
			t.Errorf("C %d, S %d", c, s)
		}
		for _, bases := range [][2]int{{1, 9}, {4, 1}, {1, 1}} {
			if _, e := group.Equal(bases[0], 1, bases[1], 1, api.Sig{C: c, S: s}); e != api.ErrArg {
				t.Errorf("bases %v: %v", bases, e)
			}
		}
	}
}

// P1, H8: one invalid integer is enough, in each place.
func TestErrorsOfEqual(t *testing.T) {
	proofs(t, func(x proved) {
		a, b := raised(x.base, x.x), raised(x.other, x.x)
		for _, n := range strangers() {
			for _, l := range [][4]int{{n, a, x.other, b}, {x.base, n, x.other, b}, {x.base, a, n, b}, {x.base, a, x.other, n}} {
				if is, e := group.Equal(l[0], l[1], l[2], l[3], x.s); is || e != api.ErrArg {
					t.Fatalf("Equal of %v: %v, %v", l, is, e)
				}
			}
		}
		for _, n := range excesses() {
			for _, s := range []api.Sig{{C: n, S: x.s.S}, {C: x.s.C, S: n}, {C: n, S: n}} {
				if is, e := group.Equal(x.base, a, x.other, b, s); is || e != api.ErrArg {
					t.Fatalf("Equal with %v: %v, %v", s, is, e)
				}
			}
		}
	})
}

// P1, H8: any integers in all places.
func TestAnyNumbersInEqual(t *testing.T) {
	all := []int{1, 4, 0, p - 1, p + 4, q - 1, q, -4}
	for _, base := range all {
		for _, a := range all {
			for _, other := range all {
				for _, b := range all {
					for _, c := range all {
						for _, s := range all {
							equal(t, base, a, other, b, api.Sig{C: c, S: s})
						}
					}
				}
			}
		}
	}
}
