package sumdb

import "mews/api"

// fault is an error that ends a call from within, however deep in it.
type fault struct{ e api.Errno }

// guarded is what work makes; of work that a fault has ended, its error alone.
// A panic that is no fault is a mistake of the program, and goes on as one.
func guarded[T any](work func() T) (made T, e api.Errno) {
	defer func() {
		switch ended := recover().(type) {
		case nil:
		case fault:
			e = ended.e
		default:
			panic(ended)
		}
	}()
	return work(), api.OK
}

// must is what a call has made; its error is a fault.
func must[T any](made T, e api.Errno) T {
	insist(e == api.OK, e)
	return made
}

// insist takes it for a fault, with this error, if something doesn't hold.
func insist(holds bool, e api.Errno) {
	if !holds {
		panic(fault{e})
	}
}
