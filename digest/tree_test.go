package digest_test

import (
	"encoding/binary"
	"math"
	"slices"
	"testing"

	"cohousing/api"
	"cohousing/digest"
)

// word has the bytes of a number, the most significant one first.
func word(n uint64) []byte { return binary.BigEndian.AppendUint64(nil, n) }

// bottom is the node of a leaf.
func bottom(leaf uint64) uint64 { return fnv1a(append([]byte{0}, word(leaf)...)) }

// pair is the node above two nodes.
func pair(left, right uint64) uint64 {
	return fnv1a(slices.Concat([]byte{1}, word(left), word(right)))
}

// split is the greatest power of 2 that is less than n.
func split(n int) int {
	m := 1
	for 2*m < n {
		m *= 2
	}
	return m
}

// wantedRoot is what Root should return, from the top down.
func wantedRoot(leaves []uint64) uint64 {
	if len(leaves) == 1 {
		return bottom(leaves[0])
	}
	m := split(len(leaves))
	return pair(wantedRoot(leaves[:m]), wantedRoot(leaves[m:]))
}

// wantedPath is what Path should return, from the top down.
func wantedPath(leaves []uint64, i int) []uint64 {
	if len(leaves) == 1 {
		return nil
	}
	m := split(len(leaves))
	if i < m {
		return append(wantedPath(leaves[:m], i), wantedRoot(leaves[m:]))
	}
	return append(wantedPath(leaves[m:], i-m), wantedRoot(leaves[:m]))
}

// endOf is where the way of a leaf ends with a path beside it, from the top down; not every path has the right length.
func endOf(leaf uint64, i, n int, path []uint64) (uint64, bool) {
	if n == 1 {
		return bottom(leaf), len(path) == 0
	}
	if len(path) == 0 {
		return 0, false
	}
	m, last := split(n), len(path)-1
	if i < m {
		left, is := endOf(leaf, i, m, path[:last])
		return pair(left, path[last]), is
	}
	right, is := endOf(leaf, i-m, n-m, path[:last])
	return pair(path[last], right), is
}

// wantedCheck is what Check should return.
func wantedCheck(root, leaf uint64, i, n int, path []uint64) bool {
	if n < 1 || n > 1024 || i < 0 || i >= n {
		return false
	}
	end, is := endOf(leaf, i, n, path)
	return is && end == root
}

// sameNode are two leaves with the same node.
func sameNode() (one, two uint64) { return 0xce193b6ff91b63a8, 0x4b754a031f036998 }

// different are n leaves, each of which has other bits than the ones before.
func different(n int) []uint64 {
	r := dice()
	leaves := []uint64{0, 1, math.MaxUint64, 1 << 63, 0x0102030405060708, 1 << 32}
	for len(leaves) < n {
		leaves = append(leaves, r.Uint64())
	}
	return leaves[:n]
}

// sizes are numbers of leaves: all small ones, and those around powers of 2, and others with many or few levels that end with a node alone.
func sizes() []int {
	var all []int
	for n := 1; n <= 40; n++ {
		all = append(all, n)
	}
	return append(all, 63, 64, 65, 66, 97, 127, 128, 129, 192, 193, 255, 256, 257, 341, 511, 512, 513, 514, 683, 768, 769, 1000, 1022, 1023, 1024)
}

// mustRoot is the root of a tree.
func mustRoot(t *testing.T, leaves []uint64) uint64 {
	t.Helper()
	root, e := digest.Root(leaves)
	if e != api.OK {
		t.Fatalf("Root of %d leaves: %v", len(leaves), e)
	}
	return root
}

// mustPath is the path of a leaf.
func mustPath(t *testing.T, leaves []uint64, i int) []uint64 {
	t.Helper()
	path, e := digest.Path(leaves, i)
	if e != api.OK {
		t.Fatalf("Path of leaf %d of %d: %v", i, len(leaves), e)
	}
	return path
}

// P6.1, F3 and F4: small trees, level by level.
func TestSmallTrees(t *testing.T) {
	l := []uint64{7, 0, math.MaxUint64, 1 << 63, 0x0102030405060708, 12, 13}
	a, b, c, d, e, f, g := bottom(l[0]), bottom(l[1]), bottom(l[2]), bottom(l[3]), bottom(l[4]), bottom(l[5]), bottom(l[6])
	ab, cd, ef := pair(a, b), pair(c, d), pair(e, f)
	abcd, efg := pair(ab, cd), pair(ef, g)
	for _, x := range []struct {
		root  uint64
		paths [][]uint64
	}{
		{a, [][]uint64{nil}},
		{ab, [][]uint64{{b}, {a}}},
		{pair(ab, c), [][]uint64{{b, c}, {a, c}, {ab}}},
		{abcd, [][]uint64{{b, cd}, {a, cd}, {d, ab}, {c, ab}}},
		// The fifth leaf goes up unchanged at two levels in a row.
		{pair(abcd, e), [][]uint64{{b, cd, e}, {a, cd, e}, {d, ab, e}, {c, ab, e}, {abcd}}},
		{pair(abcd, ef), [][]uint64{{b, cd, ef}, {a, cd, ef}, {d, ab, ef}, {c, ab, ef}, {f, abcd}, {e, abcd}}},
		{pair(abcd, efg), [][]uint64{{b, cd, efg}, {a, cd, efg}, {d, ab, efg}, {c, ab, efg}, {f, g, abcd}, {e, g, abcd}, {ef, abcd}}},
	} {
		n := len(x.paths)
		if root, e := digest.Root(l[:n]); root != x.root || e != api.OK {
			t.Errorf("Root of %d leaves: %x, %v; want %x", n, root, e, x.root)
		}
		for i, want := range x.paths {
			if path, e := digest.Path(l[:n], i); !slices.Equal(path, want) || e != api.OK {
				t.Errorf("Path of leaf %d of %d: %x, %v; want %x", i, n, path, e, want)
			}
			if !digest.Check(x.root, l[i], i, n, want) {
				t.Errorf("Check of leaf %d of %d: false", i, n)
			}
		}
	}
}

// P6.1, F3: the nodes are digests of the bytes that the chapter says, with the most significant one first.
func TestBytesOfNodes(t *testing.T) {
	one := digest.Sum([]byte{0, 1, 2, 3, 4, 5, 6, 7, 8})
	if root := mustRoot(t, []uint64{0x0102030405060708}); root != one {
		t.Errorf("%x; want %x", root, one)
	}
	two := digest.Sum([]byte{0, 0xff, 0, 0, 0, 0, 0, 0, 0x80})
	b := []byte{1}
	for _, n := range []uint64{one, two} {
		for shift := 56; shift >= 0; shift -= 8 {
			b = append(b, byte(n>>shift))
		}
	}
	if root, want := mustRoot(t, []uint64{0x0102030405060708, 0xff00000000000080}), digest.Sum(b); root != want || len(b) != 17 {
		t.Errorf("%x; want %x", root, want)
	}
}

// P6.1, F3: the roots of all trees, of different leaves and of equal ones.
func TestRoots(t *testing.T) {
	leaves, zeros := different(api.MaxLeaves), make([]uint64, api.MaxLeaves)
	for n := 1; n <= api.MaxLeaves; n++ {
		for _, l := range [][]uint64{leaves[:n], leaves[api.MaxLeaves-n:], zeros[:n]} {
			if root, e := digest.Root(l); root != wantedRoot(l) || e != api.OK {
				t.Fatalf("Root of %d leaves: %x, %v; want %x", n, root, e, wantedRoot(l))
			}
		}
	}
}

// P6.4: a root is the digest of 1 and the roots of two trees.
func TestTwoTrees(t *testing.T) {
	leaves := different(api.MaxLeaves)
	for n := 2; n <= api.MaxLeaves; n++ {
		m := 1
		for m*2 < n {
			m *= 2
		}
		left, right := mustRoot(t, leaves[:m]), mustRoot(t, leaves[m:n])
		want := digest.Sum(slices.Concat([]byte{1}, word(left), word(right)))
		if root := mustRoot(t, leaves[:n]); root != want {
			t.Fatalf("root of %d leaves: %x; want %x of trees with %d and %d", n, root, want, m, n-m)
		}
	}
}

// P6.1, F4, and P6.5: every leaf with its path.
func TestPaths(t *testing.T) {
	all := different(api.MaxLeaves)
	for _, n := range sizes() {
		leaves := all[:n]
		root := mustRoot(t, leaves)
		for i, leaf := range leaves {
			path := mustPath(t, leaves, i)
			if want := wantedPath(leaves, i); !slices.Equal(path, want) {
				t.Fatalf("Path of leaf %d of %d: %x; want %x", i, n, path, want)
			}
			if !digest.Check(root, leaf, i, n, path) {
				t.Fatalf("Check of leaf %d of %d: false", i, n)
			}
		}
	}
}

// P6.5: every leaf with its path, where leaves are equal, and each number of leaves.
func TestEveryPathIsAccepted(t *testing.T) {
	for n := 1; n <= api.MaxLeaves; n++ {
		leaves := make([]uint64, n)
		for i := range leaves {
			leaves[i] = uint64(i % 3)
		}
		root := mustRoot(t, leaves)
		for i := 0; i < n; i += 1 + (n-i)/5 {
			if !digest.Check(root, leaves[i], i, n, mustPath(t, leaves, i)) {
				t.Fatalf("Check of leaf %d of %d: false", i, n)
			}
		}
	}
}

// P6.1, F4: how many nodes there are beside the way of the last leaf, which goes up unchanged where there is none.
func TestLengthsOfPaths(t *testing.T) {
	leaves := different(api.MaxLeaves)
	for _, x := range []struct{ n, i, want int }{
		{1, 0, 0}, {2, 1, 1}, {3, 2, 1}, {3, 0, 2}, {5, 4, 1}, {5, 3, 3}, {6, 5, 2}, {7, 6, 2}, {9, 8, 1}, {11, 10, 2}, {13, 12, 2}, {15, 14, 3}, {17, 16, 1}, {33, 32, 1},
		{513, 512, 1}, {513, 0, 10}, {514, 513, 2}, {768, 767, 9}, {769, 768, 2}, {1023, 1022, 9}, {1023, 1021, 10}, {1024, 0, 10}, {1024, 1023, 10},
	} {
		if path := mustPath(t, leaves[:x.n], x.i); len(path) != x.want {
			t.Errorf("Path of leaf %d of %d has %d elements; want %d", x.i, x.n, len(path), x.want)
		}
	}
}

// P6.1, F3 and F4: what is no tree, and what is no index, in the order of the errors.
func TestTreeErrors(t *testing.T) {
	many := different(100000)
	noIndexes := []int{-1, -2, -1024, math.MinInt, 1 << 32, math.MaxInt}
	for _, x := range []struct {
		leaves []uint64
		want   api.Errno
	}{{nil, api.ErrArg}, {[]uint64{}, api.ErrArg}, {many[:1025], api.ErrLimit}, {many[:1026], api.ErrLimit}, {many[:2048], api.ErrLimit}, {many, api.ErrLimit}} {
		if root, e := digest.Root(x.leaves); root != 0 || e != x.want {
			t.Errorf("Root of %d leaves: %x, %v; want %v", len(x.leaves), root, e, x.want)
		}
		for _, i := range append(noIndexes, 0, 1, 1023, 1024, len(x.leaves)-1, len(x.leaves), len(x.leaves)+1) {
			if path, e := digest.Path(x.leaves, i); len(path) > 0 || e != x.want {
				t.Errorf("Path of leaf %d of %d: %x, %v; want %v", i, len(x.leaves), path, e, x.want)
			}
		}
	}
	for _, n := range []int{1, 2, 3, 4, 5, 1000, 1023, 1024} {
		if _, e := digest.Root(many[:n]); e != api.OK {
			t.Errorf("Root of %d leaves: %v", n, e)
		}
		for _, i := range append(noIndexes, n, n+1, 2*n, 1024, 1025) {
			if path, e := digest.Path(many[:n], i); len(path) > 0 || e != api.ErrArg {
				t.Errorf("Path of leaf %d of %d: %x, %v", i, n, path, e)
			}
		}
	}
}
