// Package fst: transducers: see doc/01-fst.md.
package fst

import (
	"slices"

	"fareway/api"
	"fareway/order"
)

// Check a transducer.
func Check(f api.Fst) api.Errno {
	if !within(f.States, 1, api.MaxStates) {
		return api.ErrRange
	}
	if !isState(f, f.Start) {
		return api.ErrNone
	}
	if len(f.Final) != f.States {
		return api.ErrForm
	}
	if slices.ContainsFunc(f.Final, func(w int) bool { return w != api.None && !within(w, 0, api.MaxWeight) }) {
		return api.ErrRange
	}
	if len(f.Arcs) > api.MaxArcs {
		return api.ErrMany
	}
	return checkArcs(f)
}

// checkArcs takes the arcs one after the other: a fault of an earlier one is told ahead of any fault of a later one.
func checkArcs(f api.Fst) api.Errno {
	for i, a := range f.Arcs {
		if !isState(f, a.From) || !isState(f, a.To) {
			return api.ErrNone
		}
		if !within(a.In, 0, api.MaxLetter) || !within(a.Out, 0, api.MaxLetter) || !within(a.Weight, 0, api.MaxWeight) {
			return api.ErrRange
		}
		if i > 0 && order.Compare(f.Arcs[i-1], a) >= 0 {
			return api.ErrState
		}
	}
	return api.OK
}

func isState(f api.Fst, n int) bool { return within(n, 0, f.States-1) }

func within(n, least, most int) bool { return least <= n && n <= most }
