package group_test

import (
	"testing"

	"cohousing/api"
	"cohousing/group"
)

// P8.1: the examples of the chapter.
func TestExamples(t *testing.T) {
	for a, want := range map[int]bool{4: true, 9: true, 2: false, 0: false} {
		if group.Member(a) != want {
			t.Errorf("Member(%d): %v", a, !want)
		}
	}
	if n, e := group.Mul(4, 9); n != 36 || e != api.OK {
		t.Errorf("Mul(4, 9): %d, %v", n, e)
	}
	if n, e := group.Exp(4, 3); n != 64 || e != api.OK {
		t.Errorf("Exp(4, 3): %d, %v", n, e)
	}
	if n, e := group.Commit(9, 2, 1); n != 144 || e != api.OK {
		t.Errorf("Commit(9, 2, 1): %d, %v", n, e)
	}
	s, e := group.Sign(5, 7, 1, 2)
	if e != api.OK {
		t.Errorf("Sign(5, 7, 1, 2): %v", e)
	}
	if is, e := group.Verify(1024, s, 1, 2); !is || e != api.OK {
		t.Errorf("Verify(1024, %v, 1, 2): %v, %v", s, is, e)
	}
}

// P8.1: the numbers of the group are those of the chapter.
func TestNumbersOfTheGroup(t *testing.T) {
	if api.P != p || api.Q != q || api.G != 4 || api.H != 9 || p != 2*q+1 {
		t.Errorf("%d %d %d %d", api.P, api.Q, api.G, api.H)
	}
	if !group.Member(api.G) || !group.Member(api.H) {
		t.Error("G or H is no element")
	}
}

// P8.1, H1: of each number and its negative one modulo P, just one is an element.
func TestMember(t *testing.T) {
	for _, a := range elements() {
		if !group.Member(a) || group.Member(p-a) {
			t.Errorf("%d: %v, %d: %v", a, group.Member(a), p-a, group.Member(p-a))
		}
	}
	for _, a := range strangers() {
		if group.Member(a) {
			t.Errorf("%d is an element", a)
		}
	}
}

// P8.1, H1: all numbers around the ends of the group and around its size, and others, against the squares.
func TestMembers(t *testing.T) {
	var all []int
	for _, middle := range []int{0, q, p, -p, 2 * p, 1 << 31, 1 << 32, 1 << 62, -1 << 62} {
		for n := range 601 {
			all = append(all, middle-300+n)
		}
	}
	r := dice()
	for range 3000 {
		all = append(all, r.IntN(p), int(r.Uint64()))
	}
	for _, a := range all {
		if got := group.Member(a); got != isElement(a) {
			t.Fatalf("Member(%d): %v", a, got)
		}
	}
	for range 2000 {
		n := 1 + r.IntN(p-1)
		if !group.Member(times(n, n)) {
			t.Fatalf("the square of %d is no element", n)
		}
	}
}

// P8.1 and P1, H2: all pairs of elements and of others.
func TestMul(t *testing.T) {
	all := append(elements(), strangers()...)
	for _, a := range all {
		for _, b := range all {
			got, e := group.Mul(a, b)
			if want, wrong := wantedMul(a, b); got != want || e != wrong {
				t.Fatalf("Mul(%d, %d): %d, %v; want %d, %v", a, b, got, e, want, wrong)
			}
		}
	}
}

// P8.1 and P1, H3: all pairs of elements and exponents, and of others.
func TestExp(t *testing.T) {
	for _, a := range append(elements(), strangers()...) {
		for _, x := range append(exponents(), excesses()...) {
			got, e := group.Exp(a, x)
			if want, wrong := wantedExp(a, x); got != want || e != wrong {
				t.Fatalf("Exp(%d, %d): %d, %v; want %d, %v", a, x, got, e, want, wrong)
			}
		}
	}
}

// P8.1, H3: small powers are products.
func TestSmallPowers(t *testing.T) {
	for _, a := range elements() {
		want := 1
		for x := range 200 {
			if got, e := group.Exp(a, x); got != want || e != api.OK {
				t.Fatalf("Exp(%d, %d): %d, %v; want %d", a, x, got, e, want)
			}
			want = times(want, a)
		}
	}
}

// P8.1 and P1, H4: all triples of bases and exponents, and of others; 1 is no base.
func TestCommit(t *testing.T) {
	bases, all := append(bases()[:8], 1, p-1, 2, 0, p, p+4, -4, 1<<32+9), append(exponents(), excesses()[:12]...)
	for _, h := range append(bases, strangers()...) {
		for _, v := range all {
			for _, blind := range all {
				got, e := group.Commit(h, v, blind)
				if want, wrong := wantedCommit(h, v, blind); got != want || e != wrong {
					t.Fatalf("Commit(%d, %d, %d): %d, %v; want %d, %v", h, v, blind, got, e, want, wrong)
				}
			}
		}
	}
}

// P1: calls with any integers, great and negative ones also, in each place.
func TestAnyNumbersInCommit(t *testing.T) {
	all := append(numbers(), excesses()...)
	for _, h := range all {
		for _, v := range all {
			for _, blind := range all {
				got, e := group.Commit(h, v, blind)
				if want, wrong := wantedCommit(h, v, blind); got != want || e != wrong {
					t.Fatalf("Commit(%d, %d, %d): %d, %v; want %d, %v", h, v, blind, got, e, want, wrong)
				}
			}
		}
	}
}
