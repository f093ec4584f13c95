package plain

import (
	"slices"

	"fareway/api"
	"fareway/oneway"
	"fareway/spread"
)

// net is an acceptor without silent arcs: what it costs to begin and to end at each state, and by each letter from state to state.
type net struct {
	begin, final []int
	letters      []table // that of the letter 1 first
}

// turned reads all words from behind.
func (n net) turned() net {
	return net{begin: n.final, final: n.begin, letters: each(n.letters, turned)}
}

// each table made another one.
func each(l []table, anew func(table) table) []table {
	var m []table
	for _, t := range l {
		m = append(m, anew(t))
	}
	return m
}

// arcs in their order.
func (n net) arcs() []api.Arc {
	var l []api.Arc
	for from := range n.final {
		for i, t := range n.letters {
			for to, cost := range t[from] {
				if cost != api.None {
					l = append(l, api.Arc{From: from, In: i + 1, Out: i + 1, To: to, Weight: cost})
				}
			}
		}
	}
	return l
}

// used has no arc and no end but those on a way from where it begins to an end: what is too many, or too great, elsewhere has no say.
func (n net) used() net {
	arcs := n.arcs()
	come, _ := spread.Costs(n.begin, arcs, func(a api.Arc) (int, int) { return a.From, a.To })
	lead, _ := spread.Costs(n.final, arcs, func(a api.Arc) (int, int) { return a.To, a.From })
	u := net{begin: n.begin, final: slices.Clone(n.final)}
	for range n.letters {
		u.letters = append(u.letters, empty(len(n.final)))
	}
	for _, a := range arcs {
		if come[a.From] != api.None && lead[a.To] != api.None {
			u.letters[a.In-1][a.From][a.To] = a.Weight
		}
	}
	for state := range u.final {
		if come[state] == api.None {
			u.final[state] = api.None
		}
	}
	return u
}

// acceptor that begins where it costs nothing to begin.
func (n net) acceptor() api.Fst {
	return api.Fst{States: len(n.final), Start: slices.Index(n.begin, 0), Final: n.final, Arcs: n.arcs()}
}

// mostSubsets is how many states are made to look for one way for each word; then those become one that are alike.
const mostSubsets = 5000

// oneWay is an acceptor with one way for each word, and no more states than it needs; or nothing, if there are too many to find that out.
func (n net) oneWay() api.Fst {
	near := n.near()
	f, ok := oneway.Subsets(n.acceptor(), mostSubsets, func(costs []int) []int { return step(costs, near) })
	if !ok {
		return api.Fst{}
	}
	return oneway.Joined(oneway.Early(f))
}
