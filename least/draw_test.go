package least

import (
	"math"
	"slices"

	"fareway/api"
	"fareway/order"
)

// draw: numbers that are the same each time.
type draw uint64

func (d *draw) below(n int) int {
	*d = *d*6364136223846793005 + 1442695040888963407
	return int(uint64(*d) >> 33 % uint64(n))
}

// places has the numbers below n in any order.
func (d *draw) places(n int) []int {
	var l []int
	for i := range n {
		l = slices.Insert(l, d.below(i+1), i)
	}
	return l
}

// acceptor draws one that does not go round, with its states in any order: about one of odds possible arcs is there; weights are below dear.
func (d *draw) acceptor(states, letters, odds, dear int) api.Fst {
	f := api.Fst{States: states}
	for range states {
		f.Final = append(f.Final, max(d.below(2*dear)-dear, api.None))
	}
	places := d.places(states)
	f.Start = places[d.below(min(2, states))]
	for from := range states {
		for to := range from {
			for letter := 1; letter <= letters; letter++ {
				if d.below(odds) == 0 {
					f.Arcs = append(f.Arcs, arc(places[to], letter, places[from], d.below(dear)))
				}
			}
		}
	}
	f.Arcs = order.Least(f.Arcs)
	return f
}

// shuffled has the states in another order.
func (d *draw) shuffled(f api.Fst) api.Fst {
	places := d.places(f.States)
	g := api.Fst{States: f.States, Start: places[f.Start], Final: make([]int, f.States)}
	for state, cost := range f.Final {
		g.Final[places[state]] = cost
	}
	for _, a := range f.Arcs {
		g.Arcs = append(g.Arcs, arc(places[a.From], a.In, places[a.To], a.Weight))
	}
	g.Arcs = order.Least(g.Arcs)
	return g
}

// split has one state twice, with all arcs from it; arcs to it lead to the one, to the other one, or to both.
func (d *draw) split(f api.Fst) api.Fst {
	old, anew := d.below(f.States), f.States
	g := api.Fst{States: f.States + 1, Start: f.Start, Final: append(slices.Clone(f.Final), f.Final[old])}
	for _, a := range f.Arcs {
		froms, tos := []int{a.From}, []int{a.To}
		if a.From == old {
			froms = []int{old, anew}
		}
		if a.To == old {
			tos = [][]int{{old}, {anew}, {old, anew}}[d.below(3)]
		}
		for _, from := range froms {
			for _, to := range tos {
				g.Arcs = append(g.Arcs, arc(from, a.In, to, a.Weight))
			}
		}
	}
	g.Arcs = order.Least(g.Arcs)
	return g
}

// moved has some of what all costs from a state on told ahead of it: on all arcs to it.
func (d *draw) moved(f api.Fst) api.Fst {
	state := d.below(f.States)
	g := api.Fst{States: f.States, Start: f.Start, Final: slices.Clone(f.Final), Arcs: slices.Clone(f.Arcs)}
	if state == f.Start {
		return g
	}
	least := f.Final[state]
	for _, a := range f.Arcs {
		if a.From == state && (least == api.None || a.Weight < least) {
			least = a.Weight
		}
	}
	some := d.below(max(least, 0) + 1)
	if g.Final[state] != api.None {
		g.Final[state] -= some
	}
	for i, a := range f.Arcs {
		if a.From == state {
			g.Arcs[i].Weight -= some
		}
		if a.To == state {
			g.Arcs[i].Weight += some
		}
	}
	return g
}

// odd draws an acceptor in which some numbers may not stand there.
func (d *draw) odd() api.Fst {
	numbers := []int{math.MinInt, -2, -1, 0, 1, 2, 3, 9, 10, 12, 13, 200, 201, api.MaxWeight, api.MaxWeight + 1, math.MaxInt}
	f := twice()
	for range d.below(4) {
		a, b := &f.Arcs[0], &f.Arcs[1]
		places := []*int{&f.States, &f.Start, &f.Final[0], &f.Final[1], &a.From, &a.In, &a.Out, &a.To, &a.Weight, &b.In, &b.To}
		*places[d.below(len(places))] = numbers[d.below(len(numbers))]
	}
	return f
}

// arc of an acceptor.
func arc(from, letter, to, weight int) api.Arc {
	return api.Arc{From: from, In: letter, Out: letter, To: to, Weight: weight}
}

// twice has two arcs by 1 from one state.
func twice() api.Fst {
	return api.Fst{States: 3, Final: []int{api.None, 2, 0}, Arcs: []api.Arc{arc(0, 1, 1, 3), arc(0, 1, 2, 4), arc(1, 2, 2, 5)}}
}

// line is one of the word 1 1 alone.
func line(first, second, end int) api.Fst {
	return api.Fst{States: 3, Final: []int{api.None, api.None, end}, Arcs: []api.Arc{arc(0, 1, 1, first), arc(1, 1, 2, second)}}
}
