package group_test

import (
	"math"
	"slices"
	"testing"

	"cohousing/api"
	"cohousing/group"
)

// signed is a signature with what it was made of.
type signed struct {
	key, once int
	message   []int
	s         api.Sig
}

// signatures calls a function with signatures of many keys and messages.
func signatures(t *testing.T, do func(x signed)) {
	r := dice()
	for _, message := range messages() {
		for _, key := range secrets() {
			once := secrets()[r.IntN(len(secrets()))]
			do(signed{key, once, message, must[api.Sig](t)(group.Sign(key, once, message...))})
		}
	}
}

// P8.1 and P1, H5: all pairs of secrets and of others; 0 is no secret.
func TestSign(t *testing.T) {
	all := append(exponents(), excesses()...)
	for i, key := range all {
		for j, once := range all {
			message := messages()[(i+j)%len(messages())]
			got, e := group.Sign(key, once, message...)
			if want, wrong := wantedSign(key, once, message...); got != want || e != wrong {
				t.Fatalf("Sign(%d, %d, %v): %v, %v; want %v, %v", key, once, message, got, e, want, wrong)
			}
		}
	}
}

// P8.1, H5: all messages.
func TestSignMessages(t *testing.T) {
	signatures(t, func(x signed) {
		if want, _ := wantedSign(x.key, x.once, x.message...); x.s != want {
			t.Fatalf("Sign(%d, %d, %v): %v; want %v", x.key, x.once, x.message, x.s, want)
		}
	})
	if one, two := must[api.Sig](t)(group.Sign(5, 7)), must[api.Sig](t)(group.Sign(5, 7, []int{}...)); one != two {
		t.Errorf("no message: %v and %v", one, two)
	}
}

// verify compares Verify with what it should return, and returns this.
func verify(t *testing.T, pub int, s api.Sig, message ...int) bool {
	t.Helper()
	got, e := group.Verify(pub, s, message...)
	want, wrong := wantedVerify(pub, s, message...)
	if got != want || e != wrong {
		t.Fatalf("Verify(%d, %v, %v): %v, %v; want %v, %v", pub, s, message, got, e, want, wrong)
	}
	return got
}

// P8.5: what was signed is right for the public key.
func TestSignedIsRight(t *testing.T) {
	signatures(t, func(x signed) {
		pub := must[int](t)(group.Exp(4, x.key))
		if !verify(t, pub, x.s, x.message...) {
			t.Fatalf("Verify(%d, %v, %v): false", pub, x.s, x.message)
		}
	})
}

// otherExponents are numbers instead of an exponent.
func otherExponents(x int) []int {
	all := []int{0, 1, q - 1, (q - x) % q, (x + 1) % q, (x + q - 1) % q, 2 * x % q, q / 2}
	for bit := range 30 {
		if other := x ^ 1<<bit; other < q {
			all = append(all, other)
		}
	}
	return slices.DeleteFunc(all, func(other int) bool { return other == x })
}

// P8.5: a signature with another C or S, or for another key, is right only with its challenge; none of these is.
func TestChangedSignature(t *testing.T) {
	signatures(t, func(x signed) {
		if len(x.message) > 17 {
			return
		}
		pub := raised(4, x.key)
		for _, c := range otherExponents(x.s.C) {
			if verify(t, pub, api.Sig{C: c, S: x.s.S}, x.message...) {
				t.Fatalf("%v, %v: C %d", x, x.s, c)
			}
		}
		for _, s := range otherExponents(x.s.S) {
			if verify(t, pub, api.Sig{C: x.s.C, S: s}, x.message...) {
				t.Fatalf("%v, %v: S %d", x, x.s, s)
			}
		}
		if x.s.C != x.s.S && verify(t, pub, api.Sig{C: x.s.S, S: x.s.C}, x.message...) {
			t.Fatalf("%v, %v: C and S exchanged", x, x.s)
		}
		for _, other := range elements() {
			if other != pub && verify(t, other, x.s, x.message...) {
				t.Fatalf("%v, %v: key %d", x, x.s, other)
			}
		}
	})
}

// otherMessages are messages in which one integer was changed, added or left out, or which was divided otherwise.
func otherMessages(message []int) [][]int {
	all := [][]int{append(slices.Clone(message), 0), append(slices.Clone(message), 1), append([]int{0}, message...), append(slices.Clone(message), math.MinInt)}
	for i, n := range message[:min(len(message), 10)] {
		for _, other := range []int{n + 1, n - 1, -n, ^n, n ^ 1<<62, n ^ math.MinInt, n + q, n + p, n + 1<<32, 10 * n, 0} {
			if other != n {
				changed := slices.Clone(message)
				changed[i] = other
				all = append(all, changed)
			}
		}
		all = append(all, slices.Delete(slices.Clone(message), i, i+1), slices.Insert(slices.Clone(message), i, n))
		if i > 0 && n != message[i-1] {
			changed := slices.Clone(message)
			changed[i-1], changed[i] = n, changed[i-1]
			all = append(all, changed)
		}
	}
	return all
}

// P8.5: a signature for another message is right only with the challenge of that one; none of these is.
func TestChangedMessage(t *testing.T) {
	signatures(t, func(x signed) {
		pub := raised(4, x.key)
		for _, other := range otherMessages(x.message) {
			if verify(t, pub, x.s, other...) {
				t.Fatalf("%v, %v: %v", x, x.s, other)
			}
		}
	})
	s := must[api.Sig](t)(group.Sign(5, 7, 1, 2))
	for _, other := range [][]int{{12}, {1, 2, 0}, {1}, {2}, nil, {0, 1, 2}, {1024, 1, 2}, {2, 1}, {-1, 2}} {
		if verify(t, 1024, s, other...) {
			t.Errorf("%v", other)
		}
	}
}

// P8.5: signatures with a C or S of 0 and of Q - 1 are made, and are right.
func TestEndsOfSignatures(t *testing.T) {
	for _, x := range []signed{
		{5, 7, []int{11857776}, api.Sig{C: 0, S: 7}},
		{5, 12, []int{801791499}, api.Sig{C: q - 1, S: 7}},
		{5, 456457844, []int{269682268}, api.Sig{C: 123456789, S: 0}},
		{5, 456457843, []int{2302544493}, api.Sig{C: 123456789, S: q - 1}},
		{q - 1, q - 1, []int{896757815}, api.Sig{C: 0, S: q - 1}},
		{q - 1, q - 2, []int{364740543}, api.Sig{C: q - 1, S: q - 1}},
		{1, 1, []int{2063264379}, api.Sig{C: q - 1, S: 0}},
	} {
		if s := must[api.Sig](t)(group.Sign(x.key, x.once, x.message...)); s != x.s {
			t.Errorf("Sign(%d, %d, %v): %v; want %v", x.key, x.once, x.message, s, x.s)
		}
		if !verify(t, raised(4, x.key), x.s, x.message...) {
			t.Errorf("key %d, once %d, %v: not right", x.key, x.once, x.message)
		}
		for _, other := range []api.Sig{{C: x.s.C, S: x.s.S + q}, {C: x.s.C + q, S: x.s.S}, {C: x.s.C - q, S: x.s.S}, {C: x.s.C, S: x.s.S - q}} {
			if verify(t, raised(4, x.key), other, x.message...) {
				t.Errorf("%v", other)
			}
		}
	}
}

// P8.5: a signature is right by its challenge alone, also one that nobody made with a secret.
func TestRightWithoutSecret(t *testing.T) {
	// Both exponents are 0, so that the challenge is that of 1 and the key.
	if !verify(t, 1024, api.Sig{}, 506316662) || verify(t, 1024, api.Sig{}, 506316663) {
		t.Error("C and S of 0")
	}
	// 1 is an element, and a key whose power does not matter.
	for _, message := range messages() {
		for _, s := range exponents() {
			c := wantedChallenge(append([]int{raised(4, s), 1}, message...)...)
			if !verify(t, 1, api.Sig{C: c, S: s}, message...) || verify(t, 1, api.Sig{C: (c + 1) % q, S: s}, message...) {
				t.Fatalf("key 1, C %d, S %d", c, s)
			}
		}
	}
}

// P8.5: a signature that was changed is right if the challenge still agrees.
func TestChangedAndRight(t *testing.T) {
	s := must[api.Sig](t)(group.Sign(5, 7, 1))
	if s != (api.Sig{C: 551389387, S: 609463364}) || !verify(t, 1024, s, 1) {
		t.Errorf("%v", s)
	}
	if !verify(t, 1024, api.Sig{C: s.C, S: 416558569}, 1) {
		t.Error("another S with the same challenge")
	}
	if !verify(t, 1024, s, 561960995) {
		t.Error("another message with the same challenge")
	}
	if other := must[api.Sig](t)(group.Sign(5, 7, 561960995)); other != s {
		t.Errorf("%v and %v", s, other)
	}
}

// P1, H6: all pairs of keys, of any integers as C and as S.
func TestErrorsOfVerify(t *testing.T) {
	for _, pub := range append(numbers(), strangers()...) {
		for _, c := range append(numbers(), excesses()...) {
			for _, s := range numbers() {
				verify(t, pub, api.Sig{C: c, S: s})
				verify(t, pub, api.Sig{C: s, S: c}, math.MinInt, math.MaxInt)
			}
		}
	}
}

// P8.7: two signatures with the same once, and another challenge, show the secret.
func TestExtraction(t *testing.T) {
	all := messages()
	for _, key := range secrets() {
		for _, once := range secrets() {
			for i, message := range all[1:] {
				one, two := must[api.Sig](t)(group.Sign(key, once, message...)), must[api.Sig](t)(group.Sign(key, once, all[i]...))
				if slices.Equal(message, all[i]) != (one == two) || (one.C == two.C) != (one.S == two.S) {
					t.Fatalf("key %d, once %d: %v and %v", key, once, one, two)
				}
				if one == two {
					continue
				}
				if got := quotient(mod(one.S, -1, two.S), mod(one.C, -1, two.C)); got != key {
					t.Fatalf("key %d, once %d: %v and %v show %d", key, once, one, two, got)
				}
			}
		}
	}
}

// Rules: a message is not changed, nor what lies behind it, and a result depends on nothing else.
func TestMessageIsKept(t *testing.T) {
	room := []int{1, 2, 3, 4, 5, 6, 7, 8}
	want, _ := wantedSign(5, 7, 1, 2)
	for range 3 {
		s, e := group.Sign(5, 7, room[:2]...)
		is, wrong := group.Verify(1024, s, room[:2]...)
		if s != want || e != api.OK || !is || wrong != api.OK {
			t.Errorf("%v, %v, %v, %v", s, e, is, wrong)
		}
		if !slices.Equal(room, []int{1, 2, 3, 4, 5, 6, 7, 8}) {
			t.Errorf("%v", room)
		}
	}
}
