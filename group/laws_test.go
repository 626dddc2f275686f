package group_test

import (
	"testing"

	"cohousing/group"
)

// P8.2: products of elements are elements, in any order, and can be undone.
func TestProductsAreElements(t *testing.T) {
	element := must[int](t)
	for _, a := range elements() {
		if element(group.Mul(a, 1)) != a || element(group.Mul(a, element(group.Exp(a, q-1)))) != 1 {
			t.Errorf("%d times 1, or divided by itself", a)
		}
		for _, b := range elements() {
			ab := element(group.Mul(a, b))
			if !group.Member(ab) || ab != element(group.Mul(b, a)) {
				t.Errorf("%d times %d: %d", a, b, ab)
			}
			for _, c := range elements() {
				if element(group.Mul(ab, c)) != element(group.Mul(a, element(group.Mul(b, c)))) {
					t.Errorf("%d times %d times %d", a, b, c)
				}
			}
		}
	}
}

// P8.2: powers are elements, exponents are added by products and multiplied by powers, modulo Q.
func TestExponents(t *testing.T) {
	element := must[int](t)
	for _, a := range elements() {
		for _, x := range exponents() {
			ax := element(group.Exp(a, x))
			if !group.Member(ax) {
				t.Errorf("%d ^ %d is no element: %d", a, x, ax)
			}
			for _, y := range exponents() {
				if got, want := element(group.Mul(ax, element(group.Exp(a, y)))), element(group.Exp(a, (x+y)%q)); got != want {
					t.Errorf("%d ^ %d * %d ^ %d: %d; want %d", a, x, a, y, got, want)
				}
				if got, want := element(group.Exp(ax, y)), element(group.Exp(a, mod(0, x, y))); got != want {
					t.Errorf("(%d ^ %d) ^ %d: %d; want %d", a, x, y, got, want)
				}
			}
		}
	}
}

// P8.3: the product of two commitments is that to the sum, also where numbers or blinds add up to Q and more.
func TestSums(t *testing.T) {
	element := must[int](t)
	r := dice()
	for _, h := range bases() {
		for _, v := range exponents() {
			for _, w := range exponents() {
				for _, one := range []int{0, 1, q - 1, r.IntN(q)} {
					two := []int{0, 1, q - 1, q - 1 - one, (q - one) % q, r.IntN(q)}[r.IntN(6)]
					got := element(group.Mul(element(group.Commit(h, v, one)), element(group.Commit(h, w, two))))
					if want := element(group.Commit(h, (v+w)%q, (one+two)%q)); got != want {
						t.Fatalf("base %d, %d and %d, blinded by %d and %d: %d; want %d", h, v, w, one, two, got, want)
					}
				}
			}
		}
	}
}

// P8.3: a commitment to 0 that is blinded by 0 changes none, and each one has another that undoes it.
func TestOppositeCommitments(t *testing.T) {
	element := must[int](t)
	for _, h := range bases() {
		if element(group.Commit(h, 0, 0)) != 1 {
			t.Errorf("base %d: 0 and 0", h)
		}
		for _, v := range exponents() {
			for _, blind := range exponents() {
				opposite := element(group.Commit(h, (q-v)%q, (q-blind)%q))
				if got := element(group.Mul(element(group.Commit(h, v, blind)), opposite)); got != 1 {
					t.Errorf("base %d: %d, blinded by %d: %d", h, v, blind, got)
				}
			}
		}
	}
}

// P8.4: a commitment to a number is one to each other number, with another blind.
func TestHiding(t *testing.T) {
	element := must[int](t)
	r := dice()
	for _, secret := range secrets() {
		h := element(group.Exp(4, secret))
		for _, v := range exponents() {
			for _, w := range exponents() {
				for _, blind := range []int{0, 1, q - 1, r.IntN(q)} {
					other := mod(blind, 1, quotient(mod(v, -1, w), secret))
					got, want := element(group.Commit(h, w, other)), element(group.Commit(h, v, blind))
					if got != want {
						t.Fatalf("t %d: %d, blinded by %d, and %d, blinded by %d", secret, v, blind, w, other)
					}
					if (other == blind) != (v == w) {
						t.Fatalf("t %d: %d and %d, blinded by %d and %d", secret, v, w, blind, other)
					}
				}
			}
		}
	}
}

// P8.4: with one second base, each number has exactly one blind for a commitment, so that blinds that differ lead to commitments that differ.
func TestOneBlind(t *testing.T) {
	element := must[int](t)
	for _, h := range bases() {
		for _, v := range exponents() {
			seen := map[int]int{}
			for _, blind := range exponents() {
				c := element(group.Commit(h, v, blind))
				if old, is := seen[c]; is && old != blind {
					t.Errorf("base %d, number %d: blinds %d and %d", h, v, old, blind)
				}
				seen[c] = blind
			}
		}
	}
}
