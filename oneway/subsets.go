// Package oneway: acceptors with one way for each word, of as many states, and with weights as great, as it may be, for the layers that make them.
package oneway

import (
	"slices"

	"fareway/api"
	"fareway/spread"
)

// spots has, for each state, how much dearer it is to be there than at the cheapest one; None, if one can't be there, or there is no such state.
type spots [api.MaxStates]int

// subsets has the numbers of spots, as they are first met.
type subsets struct {
	met    []spots
	number map[spots]int
}

// meet the spots at which it costs so much to be: their number, and what it costs at the cheapest one. There must be one.
func (s *subsets) meet(costs []int) (number, cheapest int) {
	cheapest = spread.Cheapest(costs)
	var l spots
	for state := range l {
		l[state] = api.None
	}
	for state, cost := range costs {
		if cost != api.None {
			l[state] = cost - cheapest
		}
	}
	if _, ok := s.number[l]; !ok {
		s.number[l] = len(s.met)
		s.met = append(s.met, l)
	}
	return s.number[l], cheapest
}

// Subsets of an acceptor without silent arcs: one state for all spots at which one may be behind a word, if there are no more than most of them. From what it costs to be at each state also tells what it is taken to cost: where one spot is as good as another one, those may be, too, so that fewer subsets differ.
func Subsets(f api.Fst, most int, also func(costs []int) []int) (api.Fst, bool) {
	s := subsets{number: map[spots]int{}}
	s.meet(also(spread.Only(f.States, f.Start)))
	var g api.Fst
	for from := 0; from < len(s.met); from++ {
		if len(s.met) > most {
			return api.Fst{}, false
		}
		at := s.met[from][:f.States]
		g.Final = append(g.Final, end(f, at))
		for i, costs := range behind(f, at) {
			if spread.Cheapest(costs) != api.None {
				to, cost := s.meet(also(costs))
				g.Arcs = append(g.Arcs, api.Arc{From: from, In: i + 1, Out: i + 1, To: to, Weight: cost})
			}
		}
	}
	g.States = len(s.met)
	return g, true
}

// behind each letter: what it costs to be at each state, if at tells what it costs ahead of it.
func behind(f api.Fst, at []int) [api.MaxLetter][]int {
	var l [api.MaxLetter][]int
	for i := range l {
		l[i] = slices.Repeat([]int{api.None}, f.States)
	}
	for _, a := range f.Arcs {
		costs := l[a.In-1]
		if cost := spread.Sum(at[a.From], a.Weight); spread.Less(cost, costs[a.To]) {
			costs[a.To] = cost
		}
	}
	return l
}

// end: what it costs to end at the best of all states.
func end(f api.Fst, at []int) int {
	var costs []int
	for state, cost := range f.Final {
		costs = append(costs, spread.Sum(at[state], cost))
	}
	return spread.Cheapest(costs)
}
