package amend

import (
	"iter"

	"cohousing/api"
)

// households are the values of all households for right declarations, in lexicographic order. They share their memory: the next ones stand in the place of the last ones.
func households(l []api.Decl) iter.Seq[[]int] {
	return func(yield func([]int) bool) {
		values := make([]int, len(l))
		for i, d := range l {
			values[i] = d.Lo
		}
	count:
		for yield(values) {
			for i := len(l) - 1; i >= 0; i-- {
				if values[i] < l[i].Hi {
					values[i]++
					continue count
				}
				values[i] = l[i].Lo
			}
			return
		}
	}
}
