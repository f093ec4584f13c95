// Package sound: the first fault of some transducers, for the layers that are handed one or more.
package sound

import (
	"fareway/api"
	"fareway/fst"
)

// All: what Check says of the first one that it does not pass.
func All(fs ...api.Fst) api.Errno {
	for _, f := range fs {
		if e := fst.Check(f); e != api.OK {
			return e
		}
	}
	return api.OK
}
