package plain

import (
	"slices"

	"fareway/api"
	"fareway/spread"
)

// spots: how much dearer it is to be at each state than at the cheapest one; None, if one can't be there.
type spots [mostStates]int

// subsets has the numbers of spots that words lead to, as they are first met.
type subsets struct {
	near   table
	number map[spots]int
	met    []spots
}

// meet has the number of the spots at which it costs so much to be, and what the cheapest one costs.
func (s *subsets) meet(costs []int) (number, cheapest int) {
	cheapest = best(costs)
	var l spots
	// From where all can be done that can be done from another spot, that one is met too, as it were: so fewer differ.
	for state, cost := range step(costs, s.near) {
		l[state] = cost - cheapest
		if cost == api.None {
			l[state] = api.None
		}
	}
	if _, ok := s.number[l]; !ok && cheapest != api.None {
		s.number[l] = len(s.met)
		s.met = append(s.met, l)
	}
	return s.number[l], cheapest
}

// oneWay has one state for all spots that a word leads to, and so at most one arc from each state by each letter; or nothing, if there would be more states.
func (n net) oneWay() net {
	states := len(n.final)
	s := subsets{near: n.near(), number: map[spots]int{}}
	s.meet(n.begin)
	w := net{begin: spread.Only(states, 0), final: slices.Repeat([]int{api.None}, states)}
	w.letters = each(n.letters, func(table) table { return empty(states) })
	for from := 0; from < len(s.met); from++ {
		if from == states {
			return net{}
		}
		l := s.met[from][:states]
		w.final[from] = best(sums(l, n.final))
		for i, t := range n.letters {
			if to, cost := s.meet(step(l, t)); cost != api.None && to < states {
				w.letters[i][from][to] = cost
			}
		}
	}
	return w
}
