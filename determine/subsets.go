package determine

import (
	"slices"

	"fareway/api"
	"fareway/spots"
	"fareway/spread"
)

// subsets makes one state of all spots at which one may be behind a word. There are no more of them than beginnings: so it is not done if there are too many.
func subsets(f api.Fst) (api.Fst, bool) {
	var n spots.Numbers
	n.Meet(spread.Only(f.States, f.Start))
	var g api.Fst
	for from := 0; from < len(n.Met); from++ {
		if len(n.Met) > api.MaxStates {
			return api.Fst{}, false
		}
		at := n.Met[from][:f.States]
		g.Final = append(g.Final, end(f, at))
		for letter := 1; letter <= api.MaxLetter; letter++ {
			costs := behind(f, at, letter)
			if spots.Cheapest(costs) == api.None {
				continue
			}
			to, cost := n.Meet(costs)
			g.Arcs = append(g.Arcs, api.Arc{From: from, In: letter, Out: letter, To: to, Weight: cost})
		}
	}
	g.States = len(n.Met)
	return g, true
}

// behind a letter: what it costs to be at each state, if at tells what it costs ahead of it.
func behind(f api.Fst, at []int, letter int) []int {
	costs := slices.Repeat([]int{api.None}, f.States)
	for _, a := range f.Arcs {
		if cost := spread.Sum(at[a.From], a.Weight); a.In == letter && spread.Less(cost, costs[a.To]) {
			costs[a.To] = cost
		}
	}
	return costs
}

// end: what it costs to end at the best of all states.
func end(f api.Fst, at []int) int {
	var costs []int
	for state, cost := range f.Final {
		costs = append(costs, spread.Sum(at[state], cost))
	}
	return spots.Cheapest(costs)
}

// beginnings of words, each of which is one way from the start; but no more than one too many are told.
func beginnings(f api.Fst) int {
	known := map[int]int{}
	var count func(state int) int
	count = func(state int) int {
		if n, ok := known[state]; ok {
			return n
		}
		n := 1
		for _, a := range f.Arcs {
			if a.From == state {
				n += count(a.To)
			}
		}
		known[state] = min(n, api.MaxStates+1)
		return known[state]
	}
	return count(f.Start)
}

// early tells what words cost as early as may be: so no weight is greater than one that the least one of all has, too.
func early(f api.Fst) api.Fst {
	on, _ := spread.Costs(f.Final, f.Arcs, func(a api.Arc) (int, int) { return a.To, a.From })
	// Ahead of the start nothing can be told.
	on[f.Start] = 0
	g := api.Fst{States: f.States, Start: f.Start}
	for state, cost := range f.Final {
		if cost != api.None {
			cost -= on[state]
		}
		g.Final = append(g.Final, cost)
	}
	for _, a := range f.Arcs {
		a.Weight += on[a.To] - on[a.From]
		g.Arcs = append(g.Arcs, a)
	}
	return g
}
