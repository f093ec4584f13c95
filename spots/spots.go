// Package spots: all states at which one may be behind a word, and how much dearer it is to be at each of them, for the layers that go all ways at once.
package spots

import (
	"fareway/api"
	"fareway/spread"
)

// Spots has, for each state, how much dearer it is to be there than at the cheapest one; None, if one can't be there, or there is no such state.
type Spots [api.MaxStates]int

// Numbers of spots, as they are first met.
type Numbers struct {
	Met    []Spots
	number map[Spots]int
}

// Meet the spots at which it costs so much to be: their number, and what it costs at the cheapest one. There must be one.
func (n *Numbers) Meet(costs []int) (number, cheapest int) {
	cheapest = Cheapest(costs)
	var s Spots
	for state := range s {
		s[state] = api.None
	}
	for state, cost := range costs {
		if cost != api.None {
			s[state] = cost - cheapest
		}
	}
	if _, ok := n.number[s]; !ok {
		if n.number == nil {
			n.number = map[Spots]int{}
		}
		n.number[s] = len(n.Met)
		n.Met = append(n.Met, s)
	}
	return n.number[s], cheapest
}

// Cheapest of all prices; None, if there is none.
func Cheapest(costs []int) int {
	least := api.None
	for _, cost := range costs {
		if spread.Less(cost, least) {
			least = cost
		}
	}
	return least
}
