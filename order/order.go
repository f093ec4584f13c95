// Package order: how arcs stand behind each other, for the layers that make new ones.
package order

import (
	"cmp"
	"slices"

	"fareway/api"
)

// Compare leaves the weight out: of two arcs that differ in nothing else, neither stands behind the other.
func Compare(a, b api.Arc) int {
	return cmp.Or(
		cmp.Compare(a.From, b.From),
		cmp.Compare(a.In, b.In),
		cmp.Compare(a.Out, b.Out),
		cmp.Compare(a.To, b.To),
	)
}

// Least has the arcs in their order, anew; of those that differ in nothing but the weight only the least one, as no best way takes another.
func Least(arcs []api.Arc) []api.Arc {
	l := slices.Clone(arcs)
	slices.SortFunc(l, func(a, b api.Arc) int { return cmp.Or(Compare(a, b), cmp.Compare(a.Weight, b.Weight)) })
	return slices.CompactFunc(l, func(a, b api.Arc) bool { return Compare(a, b) == 0 })
}
