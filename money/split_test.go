package money_test

import (
	"math"
	"math/big"
	"slices"
	"testing"

	"cohousing/api"
	"cohousing/money"
)

// splits calls a function with amounts and weights: all small ones, and more weights and greater ones up to the limits.
func splits(do func(cents int, weights []int)) {
	for _, base := range []struct{ count, most int }{{1, 4}, {2, 5}, {3, 4}, {4, 3}} {
		weights := make([]int, base.count)
		for ; weights != nil; weights = next(weights, base.most) {
			if slices.Max(weights) == 0 {
				continue
			}
			for cents := -13; cents <= 13; cents++ {
				do(cents, weights)
			}
		}
	}
	for _, weights := range weightLists() {
		for _, cents := range amounts() {
			do(cents, weights)
		}
	}
}

// next returns the list after this one in an odometer with digits from 0 to a greatest one, or nil.
func next(digits []int, greatest int) []int {
	longer := slices.Clone(digits)
	for i := range longer {
		if longer[i] < greatest {
			longer[i]++
			return longer
		}
		longer[i] = 0
	}
	return nil
}

// weightLists are up to 64 weights up to the limit.
func weightLists() [][]int {
	lists := [][]int{
		{1}, {api.MaxWeight}, {7, 11, 13}, {0, api.MaxWeight}, {api.MaxWeight, 1}, {1, api.MaxWeight}, {api.MaxWeight, api.MaxWeight - 1, api.MaxWeight - 2}, {0, 0, 0, 0, 1},
		slices.Repeat([]int{1}, 64), slices.Repeat([]int{1}, 63), slices.Repeat([]int{api.MaxWeight}, 64), slices.Repeat([]int{0, 1}, 32), slices.Repeat([]int{3, 0, 1, 3}, 16),
		append(slices.Repeat([]int{1}, 63), api.MaxWeight), append(slices.Repeat([]int{0}, 63), 1), append(slices.Repeat([]int{api.MaxWeight}, 63), 0),
	}
	// A sequence that looks random, and is the same each time.
	state := uint32(1)
	for count := 2; count <= 64; count += 3 {
		weights := make([]int, count)
		for i := range weights {
			state = state*1664525 + 1013904223
			weights[i] = int(state>>8) % (api.MaxWeight + 1)
			if i%5 == 4 {
				weights[i] %= 3
			}
		}
		weights[0] = api.MaxWeight
		lists = append(lists, weights)
	}
	return lists
}

// mustSplit returns the parts of a call that has no error.
func mustSplit(t *testing.T, cents int, weights []int) []int {
	t.Helper()
	parts, e := money.Split(cents, weights)
	if e != api.OK || len(parts) != len(weights) {
		t.Fatalf("Split(%d, %v): %v, %v", cents, weights, parts, e)
	}
	return parts
}

// total is the sum of a list.
func total(l []int) int {
	sum := 0
	for _, n := range l {
		sum += n
	}
	return sum
}

// remainder is |cents| * w mod W, in package big.
func remainder(cents, w, all int) int {
	product := new(big.Int).Mul(big.NewInt(int64(cents)), big.NewInt(int64(w)))
	return int(new(big.Int).Mod(product.Abs(product), big.NewInt(int64(all))).Int64())
}

// P2.1, B3: the examples, halves and equal remainders, with either sign; weights 0, one weight, and 64.
func TestSplit(t *testing.T) {
	ones := slices.Repeat([]int{1}, 64)
	for _, x := range []struct {
		cents         int
		weights, want []int
	}{
		{100, []int{1, 1, 1}, []int{34, 33, 33}},
		{-100, []int{1, 1, 1}, []int{-34, -33, -33}},
		{5, []int{1, 2, 3}, []int{1, 2, 2}},
		{-5, []int{1, 2, 3}, []int{-1, -2, -2}},
		{0, []int{1, 2, 3}, []int{0, 0, 0}},
		{1, []int{1, 1}, []int{1, 0}},
		{-1, []int{1, 1}, []int{-1, 0}},
		{1, []int{1, 2}, []int{0, 1}},
		{-1, []int{1, 2}, []int{0, -1}},
		{1, []int{0, 1}, []int{0, 1}},
		{2, []int{0, 1, 0, 1, 1}, []int{0, 1, 0, 1, 0}},
		{-2, []int{0, 1, 0, 1, 1}, []int{0, -1, 0, -1, 0}},
		{7, []int{3}, []int{7}},
		{-7, []int{api.MaxWeight}, []int{-7}},
		{most, []int{api.MaxWeight}, []int{most}},
		{-most, []int{0, 0, 5, 0}, []int{0, 0, -most, 0}},
		{10, []int{2, 1, 1}, []int{5, 3, 2}},
		{10, []int{1, 2, 1}, []int{3, 5, 2}},
		{-10, []int{1, 1, 2}, []int{-3, -2, -5}},
		{most, []int{1, 1, 1}, []int{333333334, 333333333, 333333333}},
		{-most, []int{api.MaxWeight, api.MaxWeight, api.MaxWeight}, []int{-333333334, -333333333, -333333333}},
		{most, []int{api.MaxWeight, 1}, []int{999999000, 1000}},
		{63, ones, append(slices.Repeat([]int{1}, 63), 0)},
		{-65, ones, append([]int{-2}, slices.Repeat([]int{-1}, 63)...)},
	} {
		if parts, e := money.Split(x.cents, x.weights); !slices.Equal(parts, x.want) || e != api.OK {
			t.Errorf("Split(%d, %v): %v, %v; want %v", x.cents, x.weights, parts, e, x.want)
		}
	}
}

// P2.1, B3: each missing cent goes to the part that has the largest remainder of those that have got none, the first one of equal ones.
func TestSplitStepByStep(t *testing.T) {
	splits(func(cents int, weights []int) {
		all := total(weights)
		want, rests := make([]int, len(weights)), make([]int, len(weights))
		for i, w := range weights {
			v := exact(cents, w, all)
			want[i] = int(new(big.Int).Quo(v.Num(), v.Denom()).Int64())
			rests[i] = remainder(cents, w, all)
		}
		for total(want) != cents {
			i := slices.Index(rests, slices.Max(rests))
			rests[i] = -1
			if cents < 0 {
				want[i]--
			} else {
				want[i]++
			}
		}
		if parts := mustSplit(t, cents, weights); !slices.Equal(parts, want) {
			t.Errorf("Split(%d, %v): %v; want %v", cents, weights, parts, want)
		}
	})
}

// P2.5: the parts add up to the amount; each differs by less than a cent from the exact one, and none has the other sign.
func TestParts(t *testing.T) {
	one := whole(1)
	splits(func(cents int, weights []int) {
		parts := mustSplit(t, cents, weights)
		all := total(weights)
		if total(parts) != cents {
			t.Errorf("Split(%d, %v): %v", cents, weights, parts)
		}
		for i, part := range parts {
			if distance(whole(part), exact(cents, weights[i], all)).Cmp(one) >= 0 || part > 0 && cents < 0 || part < 0 && cents > 0 {
				t.Errorf("Split(%d, %v): part %d is %d", cents, weights, i, part)
			}
		}
	})
}

// P2.5: a weight 0 gets nothing, and a greater weight not less, in absolute value.
func TestWeights(t *testing.T) {
	splits(func(cents int, weights []int) {
		parts := mustSplit(t, cents, weights)
		for i, w := range weights {
			if w == 0 && parts[i] != 0 {
				t.Errorf("Split(%d, %v): part %d is %d", cents, weights, i, parts[i])
			}
			for j, v := range weights {
				if w > v && max(parts[i], -parts[i]) < max(parts[j], -parts[j]) {
					t.Errorf("Split(%d, %v): parts %d and %d are %d and %d", cents, weights, i, j, parts[i], parts[j])
				}
			}
		}
	})
}

// P2.6: a part that was rounded away from 0 has a remainder that is not smaller than that of one that was not; of equal ones it has the smaller index.
func TestRemainders(t *testing.T) {
	splits(func(cents int, weights []int) {
		parts := mustSplit(t, cents, weights)
		all := total(weights)
		up, rests := make([]bool, len(parts)), make([]int, len(parts))
		for i, part := range parts {
			v := exact(cents, weights[i], all)
			up[i] = new(big.Rat).Abs(whole(part)).Cmp(v.Abs(v)) > 0
			rests[i] = remainder(cents, weights[i], all)
		}
		for i := range parts {
			for j := range parts {
				if up[i] && !up[j] && (rests[i] < rests[j] || rests[i] == rests[j] && i > j) {
					t.Errorf("Split(%d, %v): %v; part %d is rounded away from 0, and part %d is not", cents, weights, parts, i, j)
				}
			}
		}
	})
}

// noWeights are lists by which nothing can be divided.
func noWeights() [][]int {
	return [][]int{
		nil, {}, {0}, {0, 0, 0}, {-1}, {1, -1}, {-1, 1}, {2, -1}, {api.MaxWeight + 1}, {1, api.MaxWeight + 1}, {api.MaxWeight + 1, -1}, {0, 0, -5, 9},
		slices.Repeat([]int{0}, 64), slices.Repeat([]int{1}, 65), slices.Repeat([]int{0}, 65), append([]int{1}, make([]int, 64)...), slices.Repeat([]int{1}, 1000),
		{math.MaxInt}, {math.MinInt}, {math.MinInt + 1, 1}, {math.MaxInt, math.MaxInt, 2}, {math.MinInt, math.MinInt}, {1, math.MaxInt, math.MinInt}, {1 << 62, 1 << 62, 1 << 62, 1 << 62, 1},
	}
}

// P2.1, B3, and P1: what is no amount is refused, and so are too few weights, too many, one beyond the limits, and all of them 0.
func TestSplitErrArg(t *testing.T) {
	for _, weights := range noWeights() {
		for _, cents := range append(noAmounts(), 0, 1, -1, 100, most, -most) {
			if parts, e := money.Split(cents, weights); len(parts) != 0 || e != api.ErrArg {
				t.Errorf("Split(%d, %v): %v, %v", cents, weights, parts, e)
			}
		}
	}
	for _, cents := range noAmounts() {
		for _, weights := range append(weightLists(), []int{1, 1}, []int{0, 2}) {
			if parts, e := money.Split(cents, weights); len(parts) != 0 || e != api.ErrArg {
				t.Errorf("Split(%d, %v): %v, %v", cents, weights, parts, e)
			}
		}
	}
}

// P1 and the rules: the weights stay as they are, and the parts are new memory each time.
func TestSplitLeavesWeights(t *testing.T) {
	weights := []int{1, 0, 2, 3, 99}
	before := slices.Clone(weights[:4])
	first := mustSplit(t, 5, weights[:4])
	for i := range first {
		first[i] = 7
	}
	_ = append(first, 8)
	if !slices.Equal(weights[:4], before) || weights[4] != 99 {
		t.Errorf("weights are now %v", weights)
	}
	if second := mustSplit(t, 5, weights[:4]); !slices.Equal(second, []int{1, 0, 2, 2}) {
		t.Errorf("Split again: %v", second)
	}
}
