package oneway

import (
	"slices"

	"fareway/api"
	"fareway/spread"
)

// Early tells what words cost as early as may be, if each state lies on a way to an end. Ahead of the start nothing can be told: so what all words cost is told behind it, where it costs more than that to come back to the start.
func Early(f api.Fst) api.Fst {
	ahead, _ := spread.Costs(f.Final, f.Arcs, func(a api.Arc) (int, int) { return a.To, a.From })
	all := ahead[f.Start]
	if all == api.None {
		return moved(f, make([]int, f.States))
	}
	g := moved(f, ahead)
	back, _ := spread.Costs(spread.Only(f.States, f.Start), g.Arcs, func(a api.Arc) (int, int) { return a.To, a.From })
	for state, cost := range back {
		ahead[state] = 0
		if spread.Less(cost, all) {
			ahead[state] = cost - all
		}
	}
	return moved(g, ahead)
}

// moved has so much of what it costs from a state on told ahead of it; if it is less than nothing, the other way about.
func moved(f api.Fst, ahead []int) api.Fst {
	g := api.Fst{States: f.States, Start: f.Start, Final: slices.Clone(f.Final), Arcs: slices.Clone(f.Arcs)}
	for state, cost := range f.Final {
		if cost != api.None {
			g.Final[state] -= ahead[state]
		}
	}
	for i, a := range f.Arcs {
		g.Arcs[i].Weight += ahead[a.To] - ahead[a.From]
	}
	return g
}
