package simple

import (
	"slices"

	"fareway/api"
	"fareway/order"
)

// turned has the same states, and of each arc what how makes of it; how may make two arcs the same.
func turned(f api.Fst, how func(api.Arc) api.Arc) api.Fst {
	f.Final = slices.Clone(f.Final)
	f.Arcs = order.Least(made(f.Arcs, how))
	return f
}

// made has of each arc what how makes of it.
func made(arcs []api.Arc, how func(api.Arc) api.Arc) []api.Arc {
	l := make([]api.Arc, 0, len(arcs))
	for _, a := range arcs {
		l = append(l, how(a))
	}
	return l
}
