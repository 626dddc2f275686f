package rational

import "cohousing/api"

// fraction is n divided by d, which need be neither reduced nor within the limits. That of two numbers has an n within 2 * MaxRat^2, so that no int overflows on the way.
type fraction struct{ n, d int }

func (a fraction) plus(b fraction) fraction { return fraction{a.n*b.d + b.n*a.d, a.d * b.d} }

func (a fraction) minus(b fraction) fraction { return fraction{a.n*b.d - b.n*a.d, a.d * b.d} }

func (a fraction) times(b fraction) fraction { return fraction{a.n * b.n, a.d * b.d} }

// over leaves a 0 below the line if b is 0, which Make refuses.
func (a fraction) over(b fraction) fraction { return fraction{a.n * b.d, a.d * b.n} }

// operate checks two numbers, and makes a number of what an operation has for them.
func operate(a, b api.Rat, operation func(a, b fraction) fraction) (api.Rat, api.Errno) {
	if !Valid(a) || !Valid(b) {
		return api.Rat{}, api.ErrArg
	}
	f := operation(fraction{a.N, a.D}, fraction{b.N, b.D})
	return Make(f.n, f.d)
}

// reduce returns the number with the value of a fraction, and panics if there is none; d is not 0.
func reduce(f fraction) api.Rat {
	n, d := size(f.n), size(f.d)
	common := divisor(n, d)
	n, d = n/common, d/common
	if n > api.MaxRat || d > api.MaxRat {
		panic(api.ErrRange)
	}
	if (f.n < 0) != (f.d < 0) {
		return api.Rat{N: -int(n), D: int(d)}
	}
	return api.Rat{N: int(n), D: int(d)}
}

// size returns an integer without its sign, unsigned, because that of the least int is no int.
func size(n int) uint {
	if n < 0 {
		return -uint(n)
	}
	return uint(n)
}

// divisor returns the greatest common divisor; that of 0 and another one is the other one.
func divisor(a, b uint) uint {
euclid:
	for {
		switch b {
		case 0:
			break euclid
		default:
			a, b = b, a%b
		}
	}
	return a
}
