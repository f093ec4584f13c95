package plain

import (
	"slices"

	"fareway/api"
	"fareway/spread"
)

// near tells how much more, at most, each word costs from one state on than from another one: from the first one, which has a row, all can be done that can be done from the other one, for so much more. None, if that can't be, or isn't known, or is more than any arc costs, so that it is of no use.
func (n net) near() table {
	t := empty(len(n.final))
	for one, row := range t {
		for other := range row {
			row[other] = more(n.final[one], n.final[other])
		}
	}
	most := 0
	for _, a := range n.arcs() {
		most = max(most, a.Weight)
	}
	for round := 0; n.raise(t, most); round++ {
		// What still rises may do so for longer than one can wait.
		if round == len(t) {
			most = api.None
		}
	}
	return t
}

// more is what the one costs more than the other one, if it does.
func more(one, other int) int {
	if other == api.None {
		return 0
	}
	if one == api.None {
		return api.None
	}
	return max(one-other, 0)
}

// raise what is told of two states to what their arcs ask for, as far as it is told of those that they lead to; give it up, if that is more than most. Was there anything?
func (n net) raise(t table, most int) bool {
	found := false
	for one, row := range t {
		for other, was := range row {
			if was == api.None {
				continue
			}
			asked := n.asked(t, one, other)
			if asked == was {
				continue
			}
			if asked > most {
				asked = api.None
			}
			row[other] = asked
			found = true
		}
	}
	return found
}

// asked is how much more the arcs of the one cost than those of the other one, but no less than is told already.
func (n net) asked(t table, one, other int) int {
	asked := t[one][other]
	for _, letter := range n.letters {
		for to, cost := range letter[other] {
			if cost == api.None {
				continue
			}
			instead := t.cheapest(letter[one], to, cost+asked)
			if instead == api.None {
				return api.None
			}
			asked = max(asked, instead-cost)
		}
	}
	return asked
}

// cheapest way to what can be done from a state, by one of the states of a row; or one that costs no more than enough.
func (t table) cheapest(row []int, to, enough int) int {
	least := api.None
	for by, first := range row {
		cost := spread.Sum(first, t[by][to])
		if !spread.Less(cost, least) {
			continue
		}
		least = cost
		if least <= enough {
			break
		}
	}
	return least
}

// lessened has fewer arcs, if it can be told from single states: those from which all costs the same become one, and arcs are left out that lead nowhere better than another one; then so from behind, until there is nothing more.
func (n net) lessened() net {
	for was := -1; was != len(n.arcs()); {
		was = len(n.arcs())
		n = n.thinned().turned().thinned().turned().used()
	}
	return n
}

func (n net) thinned() net {
	near := n.near()
	n = n.joined(func(one, other int) bool { return near[one][other] == 0 && near[other][one] == 0 })
	n.letters = each(n.letters, func(t table) table {
		return thinned(t, near, func(int) bool { return false })
	})
	return n
}

// joined has the first one of all states that are alike for all of them.
func (n net) joined(alike func(one, other int) bool) net {
	states := len(n.final)
	first := make([]int, states)
	for state := range states {
		for !alike(first[state], state) {
			first[state]++
		}
	}
	gather := func(l []int) []int {
		m := slices.Repeat([]int{api.None}, states)
		for state, cost := range l {
			if to := first[state]; spread.Less(cost, m[to]) {
				m[to] = cost
			}
		}
		return m
	}
	return net{begin: gather(n.begin), final: gather(n.final), letters: each(n.letters, func(t table) table {
		u := empty(states)
		for from, row := range t {
			for to, cost := range row {
				if cost != api.None {
					u.offer(first[from], first[to], cost)
				}
			}
		}
		return u
	})}
}
