package group_test

import (
	"fmt"
	"hash/fnv"
	"math"
	"math/big"
	"math/rand/v2"
	"testing"

	"cohousing/api"
)

// p and q are the numbers of the chapter.
const (
	p = 2147483579
	q = 1073741789
)

// dice are the same numbers in each run.
func dice() *rand.Rand { return rand.New(rand.NewPCG(8, 8)) }

// must returns a function for the results of a call that has no error.
func must[T any](t *testing.T) func(result T, e api.Errno) T {
	return func(result T, e api.Errno) T {
		t.Helper()
		if e != api.OK {
			t.Fatalf("%v", e)
		}
		return result
	}
}

// times is the product of numbers modulo p.
func times(l ...int) int {
	all := big.NewInt(1)
	for _, n := range l {
		all.Mul(all, big.NewInt(int64(n)))
	}
	return int(all.Mod(all, big.NewInt(p)).Int64())
}

// raised is a number to a power modulo p; with a negative exponent, it is divided by.
func raised(a, x int) int {
	return int(new(big.Int).Exp(big.NewInt(int64(a)), big.NewInt(int64(x)), big.NewInt(p)).Int64())
}

// mod is a + b c modulo q.
func mod(a, b, c int) int {
	n := new(big.Int).Mul(big.NewInt(int64(b)), big.NewInt(int64(c)))
	n.Add(n, big.NewInt(int64(a)))
	return int(n.Mod(n, big.NewInt(q)).Int64())
}

// quotient is a / b modulo q.
func quotient(a, b int) int {
	return mod(0, a, int(new(big.Int).ModInverse(big.NewInt(int64(mod(b, 0, 0))), big.NewInt(q)).Int64()))
}

// isElement is what Member should return: the elements are the squares.
func isElement(a int) bool {
	return 0 < a && a < p && big.Jacobi(big.NewInt(int64(a)), big.NewInt(p)) == 1
}

func isBase(a int) bool { return isElement(a) && a != 1 }

func isExponent(x int) bool { return 0 <= x && x < q }

func isSecret(x int) bool { return 0 < x && x < q }

// errorUnless is the error of a call all of whose arguments have to be valid.
func errorUnless(valid ...bool) api.Errno {
	for _, is := range valid {
		if !is {
			return api.ErrArg
		}
	}
	return api.OK
}

// wantedChallenge is the hash of the text, by Go's own package.
func wantedChallenge(l ...int) int {
	h := fnv.New64a()
	for _, n := range l {
		fmt.Fprintf(h, "%d ", n)
	}
	return int(h.Sum64() % q)
}

func wantedMul(a, b int) (int, api.Errno) {
	if e := errorUnless(isElement(a), isElement(b)); e != api.OK {
		return 0, e
	}
	return times(a, b), api.OK
}

func wantedExp(a, x int) (int, api.Errno) {
	if e := errorUnless(isElement(a), isExponent(x)); e != api.OK {
		return 0, e
	}
	return raised(a, x), api.OK
}

func wantedCommit(h, v, blind int) (int, api.Errno) {
	if e := errorUnless(isBase(h), isExponent(v), isExponent(blind)); e != api.OK {
		return 0, e
	}
	return times(raised(4, v), raised(h, blind)), api.OK
}

func wantedSign(key, once int, message ...int) (api.Sig, api.Errno) {
	if e := errorUnless(isSecret(key), isSecret(once)); e != api.OK {
		return api.Sig{}, e
	}
	c := wantedChallenge(append([]int{raised(4, once), raised(4, key)}, message...)...)
	return api.Sig{C: c, S: mod(once, c, key)}, api.OK
}

func wantedVerify(pub int, s api.Sig, message ...int) (bool, api.Errno) {
	if e := errorUnless(isElement(pub), isExponent(s.C), isExponent(s.S)); e != api.OK {
		return false, e
	}
	begin := times(raised(4, s.S), raised(pub, -s.C))
	return wantedChallenge(append([]int{begin, pub}, message...)...) == s.C, api.OK
}

func wantedSame(base, other, x, once int) (api.Sig, api.Errno) {
	if e := errorUnless(isBase(base), isBase(other), isSecret(x), isSecret(once)); e != api.OK {
		return api.Sig{}, e
	}
	c := wantedChallenge(base, raised(base, x), other, raised(other, x), raised(base, once), raised(other, once))
	return api.Sig{C: c, S: mod(once, c, x)}, api.OK
}

func wantedEqual(base, a, other, b int, s api.Sig) (bool, api.Errno) {
	if e := errorUnless(isBase(base), isBase(other), isElement(a), isElement(b), isExponent(s.C), isExponent(s.S)); e != api.OK {
		return false, e
	}
	one, two := times(raised(base, s.S), raised(a, -s.C)), times(raised(other, s.S), raised(b, -s.C))
	return wantedChallenge(base, a, other, b, one, two) == s.C, api.OK
}

// elements are numbers of the group: the least and the greatest ones, and others.
func elements() []int {
	all := []int{1, 4, 9, 3, 5, 16, 36, 64, 144, p - 2, p - 8, 1024}
	r := dice()
	for range 8 {
		all = append(all, raised(4, r.IntN(q)))
	}
	return all
}

// bases are all elements but 1.
func bases() []int { return elements()[1:] }

// strangers are numbers that are no elements.
func strangers() []int {
	return []int{
		0, -1, 2, 6, 8, p - 1, p - 3, p - 4, p - 5, p - 9, p, p + 1, p + 2, p + 4, p + 9, 2*p + 4, -2, -4, -9, 1 - p, 4 - p, -p,
		1 << 31, 1 << 32, 1<<32 + 1, 1<<32 + 4, 1<<33 + 9, p << 32, p<<31 + 4, 4 - p<<31, math.MaxInt, math.MaxInt - 1, math.MinInt, math.MinInt + 1, math.MinInt + 4,
	}
}

// exponents are numbers from 0 to q - 1.
func exponents() []int {
	all := []int{0, 1, 2, 3, 7, q / 2, q/2 + 1, q - 3, q - 2, q - 1, 1 << 29, 1<<29 - 1}
	r := dice()
	for range 8 {
		all = append(all, r.IntN(q))
	}
	return all
}

// secrets are all exponents but 0.
func secrets() []int { return exponents()[1:] }

// excesses are numbers that are no exponents.
func excesses() []int {
	return []int{
		-1, -2, q, q + 1, q + 2, 2 * q, 2*q + 1, p - 1, p, p + 1, 1 << 30, 1 << 31, 1 << 32, 1<<32 + 1, 1<<32 + 7, -q, 1 - q, -1 << 32, q << 32, q<<33 + 1,
		math.MaxInt, math.MaxInt - 1, math.MinInt, math.MinInt + 1,
	}
}

// numbers are some of each kind, for calls with so many arguments that not all can be tried.
func numbers() []int {
	return []int{0, 1, 4, 9, p - 2, 2, -1, -4, p - 1, p, p + 4, q - 1, q, q + 1, 1<<32 + 4, math.MaxInt, math.MinInt}
}

// messages are lists of many lengths, with integers of all sizes.
func messages() [][]int {
	all := [][]int{
		nil, {}, {0}, {1}, {-1}, {12}, {math.MaxInt}, {math.MinInt}, {math.MaxInt, math.MinInt}, {math.MinInt + 1, math.MaxInt - 1},
		{0, 0}, {1, 2}, {2, 1}, {-1, 2}, {1, -2}, {0, 0, 0}, {1, 2, 3}, {p, q, p - 1, q - 1, 4, 9}, {q}, {p}, {1 << 32},
	}
	r := dice()
	for _, n := range []int{5, 17, 100, 1000} {
		long := make([]int, n)
		for i := range long {
			long[i] = int(r.Uint64())
		}
		all = append(all, long)
	}
	return all
}
