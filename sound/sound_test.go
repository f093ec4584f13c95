package sound

import (
	"testing"

	"fareway/api"
)

// A1: of several transducers the fault of the first one that has any.
func TestAllTellsTheFirstFault(t *testing.T) {
	good := api.Fst{States: 1, Final: []int{0}}
	none := api.Fst{States: 1, Start: 1, Final: []int{0}}
	form := api.Fst{States: 1}
	for _, c := range []struct {
		fs   []api.Fst
		want api.Errno
	}{
		{nil, api.OK},
		{[]api.Fst{good}, api.OK},
		{[]api.Fst{good, good}, api.OK},
		{[]api.Fst{none}, api.ErrNone},
		{[]api.Fst{good, form}, api.ErrForm},
		{[]api.Fst{none, form}, api.ErrNone},
		{[]api.Fst{form, none, good}, api.ErrForm},
	} {
		if e := All(c.fs...); e != c.want {
			t.Errorf("%v: it is %d and must be %d", c.fs, e, c.want)
		}
	}
}
