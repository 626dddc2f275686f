package evaluate

import "cohousing/api"

// failure is the value of the panic by which a computation gives up.
type failure api.Errno

// need gives up with an error unless something is so.
func need(is bool, e api.Errno) {
	if !is {
		panic(failure(e))
	}
}

// must returns a result, or gives up if there is an error instead.
func must[T any](result T, e api.Errno) T {
	need(e == api.OK, e)
	return result
}

// attempt returns the result of a computation, or the error with which it gives up.
func attempt[T any](compute func() T) (result T, e api.Errno) {
	defer func() {
		if f, is := recover().(failure); is {
			e = api.Errno(f)
		}
	}()
	return compute(), api.OK
}
