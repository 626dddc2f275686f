package group

import (
	"slices"

	"cohousing/api"
	"cohousing/digest"
)

// challenge returns the exponent that integers ask for.
func challenge(l ...int) int { return int(digest.Ints(l...) % api.Q) }

// challengeFor returns the challenge of a signature: of what it begins with, the public key, and the message.
func challengeFor(begin, pub int, message []int) int {
	return challenge(slices.Concat([]int{begin, pub}, message)...)
}

// answer returns the signature, or the proof, that knows a secret and has a challenge.
func answer(c, secret, once int) api.Sig {
	return api.Sig{C: c, S: (once + c*secret) % api.Q}
}

// opening returns base to the power of the number that was used once, without that number: from the answer, and a, which is base to the power of the secret.
func opening(base, a int, s api.Sig) int {
	return product(power(base, s.S), power(a, (api.Q-s.C)%api.Q))
}

func areExponents(s api.Sig) bool { return isExponent(s.C) && isExponent(s.S) }

// hasChallenge reports whether a signature, or a proof, is right, for the challenge that it has to have.
func hasChallenge(s api.Sig, c int) bool { return s == api.Sig{C: c, S: s.S} }
