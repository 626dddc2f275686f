package digest

import "cohousing/api"

// checkCount returns the error of a tree with n leaves.
func checkCount(n int) api.Errno {
	if n < 1 {
		return api.ErrArg
	}
	if n > api.MaxLeaves {
		return api.ErrLimit
	}
	return api.OK
}

// isIndex reports whether a level with n nodes has one with the index i.
func isIndex(i, n int) bool { return 0 <= i && i < n }

// firstLevel returns the nodes of leaves.
func firstLevel(leaves []uint64) []uint64 {
	level := make([]uint64, len(leaves))
	for i, leaf := range leaves {
		level[i] = leafNode(leaf)
	}
	return level
}

// nextLevel returns the nodes of the level above one.
func nextLevel(level []uint64) []uint64 {
	next := make([]uint64, nextWidth(len(level)))
	for i := range len(level) / 2 {
		next[i] = pairNode(level[2*i], level[2*i+1])
	}
	if len(level)%2 == 1 {
		next[len(next)-1] = level[len(level)-1]
	}
	return next
}

// nextWidth returns how many nodes the level above one with n nodes has.
func nextWidth(n int) int { return (n + 1) / 2 }

// above returns the index that the node above the one with the index i has on its level.
func above(i int) int { return i / 2 }

// beside returns the index of the other node that the one above is made of. There may be none with this index.
func beside(i int) int {
	if i%2 == 0 {
		return i + 1
	}
	return i - 1
}

// join returns the node above the one with the index i and the one beside it.
func join(i int, node, other uint64) uint64 {
	if i%2 == 0 {
		return pairNode(node, other)
	}
	return pairNode(other, node)
}
