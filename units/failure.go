package units

import "cohousing/api"

// failure is the value of the panic by which a check gives up: an error and its byte offset.
type failure api.Diag

// need gives up with an error at a byte offset unless something is so.
func need(is bool, e api.Errno, at int) {
	if !is {
		panic(failure{At: at, E: e})
	}
}

// errorOf returns the error with which a check gives up, or the zero value if it does not.
func errorOf(check func()) (d api.Diag) {
	defer func() {
		if f, is := recover().(failure); is {
			d = api.Diag(f)
		}
	}()
	check()
	return api.Diag{}
}
