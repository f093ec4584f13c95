// Package spread: what it costs at least to come to states along arcs, for the layers that look for the best way.
package spread

import (
	"slices"

	"fareway/api"
)

// NoArc is by what a state is come to where it is best to begin, or that can't be come to.
const NoArc = -1

// Costs has what it costs at least to come to each state, and the number of the arc by which that is. begin tells what it costs to begin at each state (None: one can't), ends from where to where an arc is gone.
func Costs(begin []int, arcs []api.Arc, ends func(api.Arc) (from, to int)) (costs, by []int) {
	costs = slices.Clone(begin)
	by = slices.Repeat([]int{NoArc}, len(begin))
	for found := true; found; {
		found = false
		for n, a := range arcs {
			from, to := ends(a)
			cost := Sum(costs[from], a.Weight)
			// Only what costs less takes the place of another: so the arcs of by never lead round, even if some cost nothing.
			if Less(cost, costs[to]) {
				costs[to], by[to] = cost, n
				found = true
			}
		}
	}
	return costs, by
}

// Only has what it costs to begin at each state if that is at one alone, for nothing.
func Only(states, start int) []int {
	begin := slices.Repeat([]int{api.None}, states)
	begin[start] = 0
	return begin
}

// Sum of two prices; None, if one of them is.
func Sum(a, b int) int {
	if a == api.None || b == api.None {
		return api.None
	}
	return a + b
}

// Less: is the first price the better one? What can't be is worse than all that can.
func Less(a, b int) bool {
	return a != api.None && (b == api.None || a < b)
}

// Cheapest of all prices; None, if there is none.
func Cheapest(costs []int) int {
	least := api.None
	for _, cost := range costs {
		if Less(cost, least) {
			least = cost
		}
	}
	return least
}
