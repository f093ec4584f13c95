package plain

import (
	"slices"

	"fareway/api"
	"fareway/spots"
	"fareway/spread"
)

// oneWay has one state for all spots that a word leads to, and so at most one arc from each state by each letter; or nothing, if there would be more states.
func (n net) oneWay() net {
	states := len(n.final)
	near := n.near()
	w := net{begin: spread.Only(states, 0), final: slices.Repeat([]int{api.None}, states)}
	w.letters = each(n.letters, func(table) table { return empty(states) })
	var met spots.Numbers
	met.Meet(step(n.begin, near))
	for from := 0; from < len(met.Met); from++ {
		if len(met.Met) > states {
			return net{}
		}
		at := met.Met[from][:states]
		w.final[from] = spots.Cheapest(sums(at, n.final))
		for i, t := range n.letters {
			// From where all can be done that can be done from another spot one is at that one too, as it were: so fewer differ.
			next := step(step(at, t), near)
			if spots.Cheapest(next) == api.None {
				continue
			}
			if to, cost := met.Meet(next); to < states {
				w.letters[i][from][to] = cost
			}
		}
	}
	return w
}
