package digest_test

import (
	"bytes"
	"fmt"
	"hash/fnv"
	"math"
	"math/rand/v2"
	"slices"
	"strconv"
	"testing"

	"cohousing/digest"
)

// fnv1a is the hash of bytes by Go's own package.
func fnv1a(b []byte) uint64 {
	h := fnv.New64a()
	h.Write(b)
	return h.Sum64()
}

// dice are the same numbers in each run.
func dice() *rand.Rand { return rand.New(rand.NewPCG(6, 6)) }

// random makes n bytes.
func random(r *rand.Rand, n int) []byte {
	b := make([]byte, n)
	for i := range b {
		b[i] = byte(r.IntN(256))
	}
	return b
}

// texts are strings of bytes of many lengths, of equal bytes and of others.
func texts() [][]byte {
	all := [][]byte{nil, {}, {0}, {255}, []byte("a"), []byte("foobar"), []byte("12 -3 "), []byte("Straße\x00\xff")}
	r := dice()
	for n := range 70 {
		all = append(all, bytes.Repeat([]byte{0}, n), bytes.Repeat([]byte{byte(n)}, n), bytes.Repeat([]byte{255}, n), random(r, n))
	}
	return append(all, random(r, 255), random(r, 256), random(r, 257), random(r, 5000))
}

// vanishing is a string of bytes with the digest 0, which zeros behind it do not change.
func vanishing() []byte { return []byte{0xd5, 0x6b, 0xb9, 0x53, 0x42, 0x87, 0x08, 0x36} }

// P6.1, F1: the examples, and digests that are computed step by step here.
func TestSum(t *testing.T) {
	var begin uint64 = 14695981039346656037
	var factor uint64 = 1099511628211
	for _, x := range []struct {
		text string
		want uint64
	}{
		{"", 0xcbf29ce484222325},
		{"a", 0xaf63dc4c8601ec8c},
		{"foobar", 0x85944171f73967e8},
		{"b", 0xaf63df4c8601f1a5},
		{"\x00", begin * factor},
		{"\xff", (begin ^ 255) * factor},
		{"\x00\x01", (begin*factor ^ 1) * factor},
		{"\x01\x00", (begin ^ 1) * factor * factor},
		{"\x80\x7f", ((begin^128)*factor ^ 127) * factor},
		{string(vanishing()), 0},
	} {
		if got := digest.Sum([]byte(x.text)); got != x.want {
			t.Errorf("Sum(%q): %x; want %x", x.text, got, x.want)
		}
	}
	if got := digest.Sum(nil); got != begin {
		t.Errorf("Sum(nil): %d", got)
	}
}

// P6.1, F1: all strings of one byte and of two, and longer ones, against Go's own package.
func TestSums(t *testing.T) {
	all := texts()
	for first := range 256 {
		all = append(all, []byte{byte(first)})
		for second := range 256 {
			all = append(all, []byte{byte(first), byte(second)})
		}
	}
	for _, b := range append(all, random(dice(), 1<<20)) {
		if got, want := digest.Sum(b), fnv1a(b); got != want {
			t.Fatalf("Sum of %d bytes (%x): %x; want %x", len(b), b[:min(len(b), 20)], got, want)
		}
	}
}

// P6.2: each byte of a string replaced by each other byte leads to another digest.
func TestOneByte(t *testing.T) {
	for _, b := range texts() {
		if len(b) > 70 {
			continue
		}
		sum := digest.Sum(b)
		for i := range b {
			other := slices.Clone(b)
			for by := 1; by < 256; by++ {
				other[i] = b[i] ^ byte(by)
				if digest.Sum(other) == sum {
					t.Fatalf("%x and %x: %x", b, other, sum)
				}
			}
		}
	}
}

// P6.2: two strings with the same bytes behind both have the same digest just if they have it without these.
func TestSameBehind(t *testing.T) {
	zero := vanishing()
	pairs := [][2][]byte{{zero, append(vanishing(), 0)}, {append(vanishing(), 0, 0, 0), zero}, {nil, {0}}, {nil, zero}, {[]byte("a"), []byte("b")}, {[]byte("foo"), []byte("foobar")}}
	one, two := sameNode()
	pairs = append(pairs, [2][]byte{append([]byte{0}, word(one)...), append([]byte{0}, word(two)...)})
	all := texts()
	for i := 1; i < len(all); i++ {
		pairs = append(pairs, [2][]byte{all[i-1], all[i]})
	}
	equal := 0
	for _, p := range pairs {
		if bytes.Equal(p[0], p[1]) {
			continue
		}
		is := digest.Sum(p[0]) == digest.Sum(p[1])
		if is {
			equal++
		}
		for _, behind := range all[:120] {
			a, b := slices.Concat(p[0], behind), slices.Concat(p[1], behind)
			if digest.Sum(a) == digest.Sum(b) != is {
				t.Fatalf("%x and %x, without %x behind: %v", a, b, behind, is)
			}
		}
	}
	if equal != 3 {
		t.Errorf("%d pairs have the same digest", equal)
	}
}

// numbers are ints of every size.
func numbers() []int {
	all := []int{0, math.MaxInt, math.MinInt, math.MaxInt - 1, math.MinInt + 1, 1 << 32, -1 << 32, 1<<63 - 10, 14695981039346656}
	for n, power := 0, 1; n < 19; n++ {
		all = append(all, power, -power, power-1, 1-power, power+1, 5*(power/10), -7*(power/10))
		if n < 18 {
			power *= 10
		}
	}
	for n := -130; n <= 130; n++ {
		all = append(all, n)
	}
	return all
}

// P6.1, F2, and P6.3: Ints is the digest of a text.
func TestInts(t *testing.T) {
	for _, x := range []struct {
		l    []int
		text string
	}{
		{nil, ""},
		{[]int{}, ""},
		{[]int{12, -3}, "12 -3 "},
		{[]int{-3, 12}, "-3 12 "},
		{[]int{0}, "0 "},
		{[]int{0, 0}, "0 0 "},
		{[]int{1}, "1 "},
		{[]int{-1}, "-1 "},
		{[]int{10, 0, -10}, "10 0 -10 "},
		{[]int{1, 2}, "1 2 "},
		{[]int{12}, "12 "},
		{[]int{1, -2}, "1 -2 "},
		{[]int{9223372036854775807}, "9223372036854775807 "},
		{[]int{-9223372036854775808}, "-9223372036854775808 "},
		{[]int{-9223372036854775808, 0, 9223372036854775807}, "-9223372036854775808 0 9223372036854775807 "},
	} {
		if got, want := digest.Ints(x.l...), fnv1a([]byte(x.text)); got != want || got != digest.Sum([]byte(x.text)) {
			t.Errorf("Ints(%v): %x; want %x of %q", x.l, got, want, x.text)
		}
	}
	if digest.Ints() != 0xcbf29ce484222325 || digest.Ints(12, -3) != digest.Sum([]byte("12 -3 ")) {
		t.Errorf("%x and %x", digest.Ints(), digest.Ints(12, -3))
	}
}

// P6.3: all numbers, alone and in lists of many lengths.
func TestLists(t *testing.T) {
	all := numbers()
	for _, n := range all {
		if got, want := digest.Ints(n), fnv1a(fmt.Append(nil, n, " ")); got != want {
			t.Errorf("Ints(%d): %x; want %x", n, got, want)
		}
	}
	for from := range all {
		for _, length := range []int{0, 1, 2, 3, 10, 100} {
			l := all[from:min(from+length, len(all))]
			text := ""
			for _, n := range l {
				text += fmt.Sprintf("%d ", n)
			}
			if got := digest.Ints(l...); got != digest.Sum([]byte(text)) || got != fnv1a([]byte(text)) {
				t.Fatalf("Ints(%v): %x", l, got)
			}
		}
	}
}

// withOtherDigit are the ints whose text differs from that of n in exactly one digit.
func withOtherDigit(n int) []int {
	var all []int
	text := []byte(strconv.Itoa(n))
	for i := range text {
		if text[i] == '-' {
			continue
		}
		for digit := byte('0'); digit <= '9'; digit++ {
			other := slices.Clone(text)
			other[i] = digit
			m, bad := strconv.Atoi(string(other))
			if bad == nil && m != n && strconv.Itoa(m) == string(other) {
				all = append(all, m)
			}
		}
	}
	return all
}

// P6.3: numbers that differ in exactly one digit lead to different digests, wherever they stand.
func TestOneDigit(t *testing.T) {
	count := 0
	for _, n := range numbers() {
		for _, m := range withOtherDigit(n) {
			count++
			for _, x := range [][2][]int{
				{{n}, {m}}, {{n, 0}, {m, 0}}, {{5, -7, n}, {5, -7, m}}, {{math.MinInt, n, math.MaxInt, 12}, {math.MinInt, m, math.MaxInt, 12}}, {{n, n}, {n, m}}, {{n, n}, {m, n}}, {{n, m}, {m, m}},
			} {
				if digest.Ints(x[0]...) == digest.Ints(x[1]...) {
					t.Errorf("Ints(%v) and Ints(%v) are the same", x[0], x[1])
				}
			}
		}
	}
	if count < 5000 {
		t.Errorf("only %d pairs", count)
	}
}
