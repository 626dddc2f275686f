package digest_test

import (
	"math"
	"slices"
	"testing"

	"cohousing/api"
	"cohousing/digest"
)

// proof is what Check is asked about.
type proof struct {
	root, leaf uint64
	i, n       int
	path       []uint64
}

func (p proof) check() bool { return digest.Check(p.root, p.leaf, p.i, p.n, p.path) }

// proofs calls a function with proofs of trees with many numbers of leaves: each leaf of small ones, and some of large ones.
func proofs(t *testing.T, do func(leaves []uint64, p proof)) {
	all := different(api.MaxLeaves)
	for _, n := range sizes() {
		leaves := all[:n]
		root := mustRoot(t, leaves)
		for i, leaf := range leaves {
			if n < 20 || i < 3 || i >= n-3 || i%97 == 0 {
				do(leaves, proof{root, leaf, i, n, mustPath(t, leaves, i)})
			}
		}
	}
}

// P6.6: another leaf is not accepted, be it one of the tree, a node of it, or one that differs in one bit.
func TestOtherLeaf(t *testing.T) {
	proofs(t, func(leaves []uint64, p proof) {
		others := append([]uint64{p.root, bottom(p.leaf), ^p.leaf, p.leaf + 1, p.leaf - 1}, p.path...)
		for bit := range 64 {
			others = append(others, p.leaf^1<<bit)
		}
		for _, leaf := range slices.Concat(others, leaves[:min(len(leaves), 20)]) {
			q := p
			q.leaf = leaf
			if q.check() != (leaf == p.leaf) {
				t.Fatalf("leaf %d of %d, with %x for %x: %v", p.i, p.n, leaf, p.leaf, q.check())
			}
		}
	})
}

// P6.1, F5: another root is not accepted, be it a node of the tree, that of a larger or smaller tree, or one that differs in one bit.
func TestOtherRoot(t *testing.T) {
	proofs(t, func(leaves []uint64, p proof) {
		others := append([]uint64{0, p.leaf, ^p.root, p.root + 1, p.root - 1, wantedRoot(append(slices.Clone(leaves), 0))}, p.path...)
		if p.n > 1 {
			others = append(others, bottom(p.leaf), wantedRoot(leaves[1:]), wantedRoot(leaves[:p.n-1]))
		}
		for bit := range 64 {
			others = append(others, p.root^1<<bit)
		}
		for _, root := range others {
			q := p
			q.root = root
			if root != p.root && q.check() {
				t.Fatalf("leaf %d of %d, with the root %x for %x", p.i, p.n, root, p.root)
			}
		}
	})
}

// P6.6: another element of the path is not accepted, nor are the same ones in another order.
func TestOtherElement(t *testing.T) {
	proofs(t, func(leaves []uint64, p proof) {
		for at, old := range p.path {
			for _, element := range []uint64{0, old + 1, old - 1, ^old, old ^ 1<<63, old ^ 1<<32, p.leaf, bottom(p.leaf), p.root} {
				q := p
				q.path = slices.Clone(p.path)
				q.path[at] = element
				if q.check() {
					t.Fatalf("leaf %d of %d, with element %d %x for %x", p.i, p.n, at, element, old)
				}
			}
			if at > 0 {
				q := p
				q.path = slices.Clone(p.path)
				q.path[at-1], q.path[at] = q.path[at], q.path[at-1]
				if q.check() {
					t.Fatalf("leaf %d of %d, with elements %d and %d exchanged", p.i, p.n, at-1, at)
				}
			}
		}
	})
}

// P6.7: a path that is too long or too short is not accepted.
func TestOtherLength(t *testing.T) {
	proofs(t, func(leaves []uint64, p proof) {
		long := make([]uint64, 2000)
		others := [][]uint64{
			append(slices.Clone(p.path), 0), append(slices.Clone(p.path), p.root), append(slices.Clone(p.path), 0, 0),
			slices.Insert(slices.Clone(p.path), 0, 0), slices.Insert(slices.Clone(p.path), 0, bottom(p.leaf)), slices.Insert(slices.Clone(p.path), 0, p.leaf),
			append(slices.Clone(p.path), p.path...), append(slices.Clone(p.path), long...), long,
		}
		for at := range p.path {
			others = append(others, p.path[:at], p.path[at+1:], slices.Delete(slices.Clone(p.path), at, at+1), slices.Insert(slices.Clone(p.path), at, p.path[at]))
		}
		for _, path := range others {
			q := p
			q.path = path
			if len(path) != len(p.path) && q.check() {
				t.Fatalf("leaf %d of %d, with %d elements", p.i, p.n, len(path))
			}
		}
	})
}

// P6.7: a path that has ended at the root is too long with another element, and one that ends at another root of the same tree is too short.
func TestEndsElsewhere(t *testing.T) {
	leaves := different(9)
	for i, leaf := range leaves[:8] {
		path := mustPath(t, leaves, i)
		// The tree of the first eight leaves ends one level below.
		below := mustRoot(t, leaves[:8])
		if digest.Check(below, leaf, i, 9, path[:3]) || digest.Check(below, leaf, i, 9, path) || digest.Check(mustRoot(t, leaves), leaf, i, 8, path) || !digest.Check(below, leaf, i, 8, path[:3]) {
			t.Errorf("leaf %d", i)
		}
	}
	if digest.Check(bottom(5), 5, 0, 2, nil) || digest.Check(bottom(5), 5, 0, 1, []uint64{0}) || digest.Check(5, 5, 0, 1, nil) || !digest.Check(bottom(5), 5, 0, 1, nil) || !digest.Check(bottom(5), 5, 0, 1, []uint64{}) {
		t.Error("one leaf")
	}
	// A node of the tree is no leaf of a smaller one.
	if digest.Check(mustRoot(t, leaves[:4]), pair(bottom(leaves[0]), bottom(leaves[1])), 0, 2, mustPath(t, leaves[:4], 0)[1:]) {
		t.Error("a node was taken for a leaf")
	}
}

// P6.7: an index that the tree does not have is not accepted, nor is a number of leaves that no tree has.
func TestNoIndex(t *testing.T) {
	proofs(t, func(leaves []uint64, p proof) {
		for _, i := range []int{-1, -2, -p.n, -p.i - 1, p.i - 1024, p.n, p.n + 1, p.n + p.i, 2 * p.n, p.i + 1024, p.i + 2048, p.i + 1<<32, p.i - 1<<32, math.MaxInt, math.MinInt, p.i + math.MinInt} {
			q := p
			q.i = i
			if (i < 0 || i >= p.n) && q.check() {
				t.Fatalf("leaf %d of %d, with the index %d", p.i, p.n, i)
			}
		}
		for _, n := range []int{0, -1, -p.n, -1024, 1025, 1026, p.n + 1024, p.n + 2048, p.n + 1<<32, p.n - 1<<32, math.MaxInt, math.MinInt, p.n + math.MinInt} {
			q := p
			q.n = n
			if (n < 1 || n > 1024) && q.check() {
				t.Fatalf("leaf %d of %d, with %d leaves", p.i, p.n, n)
			}
			q.path = nil
			q.root = bottom(p.leaf)
			if (n < 1 || n > 1024) && q.check() {
				t.Fatalf("leaf %d alone, with %d leaves", p.i, n)
			}
		}
	})
}

// P6.6: the path of a leaf is not accepted for another index.
func TestOtherIndex(t *testing.T) {
	proofs(t, func(leaves []uint64, p proof) {
		for i := range p.n {
			q := p
			q.i = i
			if q.check() != (i == p.i) {
				t.Fatalf("leaf %d of %d, with the index %d: %v", p.i, p.n, i, q.check())
			}
		}
	})
}

// P6.1, F5: all indexes and numbers of leaves for the paths of small trees; another number of leaves is accepted just if the way is the same in a tree with so many.
func TestOtherTree(t *testing.T) {
	all := different(20)
	same := 0
	for n := 1; n <= 20; n++ {
		root := mustRoot(t, all[:n])
		for i := range n {
			path := mustPath(t, all[:n], i)
			for m := -1; m <= 34; m++ {
				for j := -1; j <= m; j++ {
					got, want := digest.Check(root, all[i], j, m, path), wantedCheck(root, all[i], j, m, path)
					if got != want {
						t.Fatalf("leaf %d of %d, with the index %d of %d: %v", i, n, j, m, got)
					}
					if got && m != n {
						same++
					}
				}
			}
		}
	}
	if same == 0 {
		t.Error("no way was the same in two trees")
	}
}

// P6.6: whatever Check accepts for an index of a tree is the leaf and the path of the tree, or some strings on both ways have the same digest.
func TestBinding(t *testing.T) {
	r := dice()
	accepted := 0
	for range 30000 {
		n := 1 + r.IntN(12)
		leaves := make([]uint64, n)
		for i := range leaves {
			leaves[i] = uint64(r.IntN(3))
		}
		root, i := mustRoot(t, leaves), r.IntN(n)
		leaf, path := leaves[r.IntN(n)], slices.Clone(mustPath(t, leaves, r.IntN(n)))
		if len(path) > 0 && r.IntN(2) == 0 {
			path[r.IntN(len(path))] = bottom(uint64(r.IntN(3)))
		}
		if !digest.Check(root, leaf, i, n, path) {
			continue
		}
		accepted++
		// None of the digests here is that of two strings.
		if leaf != leaves[i] || !slices.Equal(path, mustPath(t, leaves, i)) {
			t.Fatalf("leaf %d of %v: %d with %x", i, leaves, leaf, path)
		}
	}
	if accepted < 1000 {
		t.Errorf("only %d were accepted", accepted)
	}
}

// P6.6: two leaves with the same node are the ones that can stand for each other.
func TestSameNode(t *testing.T) {
	one, two := sameNode()
	if one == two || mustRoot(t, []uint64{one}) != mustRoot(t, []uint64{two}) {
		t.Fatalf("%x and %x have different nodes", one, two)
	}
	for n := 1; n <= 20; n++ {
		for i := range n {
			leaves := different(n)
			leaves[i] = one
			others := slices.Clone(leaves)
			others[i] = two
			root, path := mustRoot(t, leaves), mustPath(t, leaves, i)
			if root != mustRoot(t, others) || !slices.Equal(path, mustPath(t, others, i)) || !digest.Check(root, two, i, n, path) || digest.Check(root, one^two, i, n, path) {
				t.Errorf("leaf %d of %d", i, n)
			}
		}
	}
}

// P6.1, F5: proofs in which anything may be other than it should, against a computation from the top down.
func TestChecks(t *testing.T) {
	r := dice()
	counts := map[bool]int{}
	proofs(t, func(leaves []uint64, p proof) {
		for range 40 {
			q := p
			q.path = slices.Clone(p.path)
			switch r.IntN(7) {
			case 0:
				q.n = r.IntN(1030) - 2
			case 1:
				q.i = r.IntN(q.n+4) - 2
			case 2:
				q.path = append(q.path, r.Uint64())
			case 3:
				q.path = q.path[:r.IntN(len(q.path)+1)]
			case 4:
				q.n += r.IntN(5) - 2
				q.i += r.IntN(3) - 1
			case 5:
				q.path = append(q.path, r.Uint64())[1:]
			}
			// The root to which the way leads makes the rest count.
			if 1 <= q.n && q.n <= 1024 && 0 <= q.i && q.i < q.n && r.IntN(3) > 0 {
				if end, is := endOf(q.leaf, q.i, q.n, q.path); is {
					q.root = end
				}
			}
			want := wantedCheck(q.root, q.leaf, q.i, q.n, q.path)
			if q.check() != want {
				t.Fatalf("Check(%x, %x, %d, %d, %x): %v", q.root, q.leaf, q.i, q.n, q.path, !want)
			}
			counts[want]++
		}
	})
	if counts[true] < 1000 || counts[false] < 1000 {
		t.Error(counts)
	}
}

// P1: with any arguments, each call ends with a result, or with an error that the chapter names and zero values, and again with the same one.
func TestTotal(t *testing.T) {
	integers := append(numbers(), 1023, 1024, 1025)
	all := different(5000)
	for _, n := range []int{0, 1, 2, 3, 7, 1024, 1025, 5000} {
		root, e := digest.Root(all[:n])
		again, d := digest.Root(all[:n])
		if root != again || e != d || e != api.OK && root != 0 || e == api.OK != (1 <= n && n <= 1024) || !slices.Contains([]api.Errno{api.OK, api.ErrArg, api.ErrLimit}, e) {
			t.Errorf("Root of %d leaves: %x, %v and then %x, %v", n, root, e, again, d)
		}
		for _, i := range integers {
			path, e := digest.Path(all[:n], i)
			again, d := digest.Path(all[:n], i)
			if !slices.Equal(path, again) || e != d || e != api.OK && len(path) > 0 || e == api.OK != (1 <= n && n <= 1024 && 0 <= i && i < n) || !slices.Contains([]api.Errno{api.OK, api.ErrArg, api.ErrLimit}, e) {
				t.Errorf("Path of leaf %d of %d: %x, %v and then %x, %v", i, n, path, e, again, d)
			}
		}
	}
	for _, i := range integers {
		for _, n := range integers {
			for _, length := range []int{0, 1, 2, 9, 10, 11, 5000} {
				if want := wantedCheck(all[0], all[1], i, n, all[:length]); digest.Check(all[0], all[1], i, n, all[:length]) != want {
					t.Fatalf("Check of leaf %d of %d with %d elements: %v", i, n, length, !want)
				}
			}
		}
	}
	for _, b := range texts() {
		if digest.Sum(b) != digest.Sum(b) {
			t.Errorf("Sum(%x) changes", b)
		}
	}
	if digest.Ints(integers...) != digest.Ints(integers...) {
		t.Error("Ints changes")
	}
}

// Section Rules: arguments stay as they are, also behind their end, and a result shares no memory with them, nor with that of another call.
func TestMemory(t *testing.T) {
	for _, n := range []int{1, 2, 3, 8, 13, 1024} {
		whole := different(n + 5)
		kept := slices.Clone(whole)
		leaves := whole[:n]
		digest.Root(leaves)
		first, second := mustPath(t, leaves, n-1), mustPath(t, leaves, n-1)
		root, before := mustRoot(t, leaves), slices.Clone(second)
		digest.Check(root, leaves[n-1], n-1, n, first)
		if !slices.Equal(first, second) {
			t.Errorf("Check has changed a path of %d leaves", n)
		}
		for i := range first[:cap(first)] {
			first[:cap(first)][i] = 99
		}
		if !slices.Equal(whole, kept) || !slices.Equal(second, before) || mustRoot(t, leaves) != root {
			t.Errorf("%d leaves have been changed", n)
		}
	}
	for _, b := range texts() {
		before := slices.Clone(b)
		digest.Sum(b)
		if !slices.Equal(b, before) {
			t.Errorf("%x has become %x", before, b)
		}
	}
	list := numbers()
	digest.Ints(list...)
	digest.Ints(list[:3]...)
	if !slices.Equal(list, numbers()) {
		t.Error("numbers have been changed")
	}
}
