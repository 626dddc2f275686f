package digest

const (
	// empty is the digest of no bytes.
	empty = 14695981039346656037
	// prime is what each byte multiplies by.
	prime = 1099511628211
	// wordBytes is how many bytes a number of 64 bits has.
	wordBytes = 8
)

// The first byte of what a node is the digest of keeps leaves and pairs of nodes apart.
const (
	leafMark = 0
	pairMark = 1
)

// extend returns the digest of some bytes with further ones behind them, from the digest of the former alone.
func extend(sum uint64, b []byte) uint64 {
	for _, c := range b {
		sum = (sum ^ uint64(c)) * prime
	}
	return sum
}

// leafNode returns the node of a leaf.
func leafNode(leaf uint64) uint64 { return mark(leafMark, leaf) }

// pairNode returns the node above two nodes.
func pairNode(left, right uint64) uint64 { return mark(pairMark, left, right) }

// mark returns the digest of a byte and numbers.
func mark(first byte, numbers ...uint64) uint64 {
	b := make([]byte, 1+wordBytes*len(numbers))
	b[0] = first
	for i, n := range numbers {
		word := wordOf(n)
		copy(b[1+wordBytes*i:], word[:])
	}
	return Sum(b)
}

// wordOf returns the bytes of a number, the most significant one first.
func wordOf(n uint64) [wordBytes]byte {
	var word [wordBytes]byte
	for i := range wordBytes {
		word[wordBytes-1-i] = byte(n >> (8 * i))
	}
	return word
}
