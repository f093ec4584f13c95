package short

import "fareway/api"

// pushedEnds: ending costs less by what it costs at least from the state to an end, which is never more than ending there.
func pushedEnds(f api.Fst, toEnd []int) []int {
	var l []int
	for state, cost := range f.Final {
		if cost != api.None {
			cost -= toEnd[state]
		}
		l = append(l, cost)
	}
	return l
}

// pushedArcs has the arcs on ways to an end, and what each costs more than the best way on from where it begins.
func pushedArcs(f api.Fst, toEnd []int) []api.Arc {
	var l []api.Arc
	for _, a := range f.Arcs {
		if toEnd[a.From] == api.None || toEnd[a.To] == api.None {
			continue
		}
		a.Weight += toEnd[a.To] - toEnd[a.From]
		l = append(l, a)
	}
	return l
}
