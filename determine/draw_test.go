package determine

import (
	"math"
	"slices"
	"testing"

	"fareway/api"
	"fareway/order"
	"fareway/score"
)

// draw: numbers that are the same each time.
type draw uint64

func (d *draw) below(n int) int {
	*d = *d*6364136223846793005 + 1442695040888963407
	return int(uint64(*d) >> 33 % uint64(n))
}

// acceptor draws one that does not go round, with its states in any order: about one of odds possible arcs is there; weights are below dear.
func (d *draw) acceptor(states, letters, odds, dear int) api.Fst {
	f := api.Fst{States: states}
	var places []int
	for state := range states {
		f.Final = append(f.Final, max(d.below(2*dear)-dear, api.None))
		places = slices.Insert(places, d.below(state+1), state)
	}
	f.Start = places[d.below(min(3, states))]
	for from := range states {
		for to := range from {
			for letter := 1; letter <= letters; letter++ {
				if d.below(odds) == 0 {
					f.Arcs = append(f.Arcs, arc(places[to], letter, places[from], d.below(dear)))
				}
			}
		}
	}
	f.Arcs = order.Least(f.Arcs)
	return f
}

// any draws a transducer with arcs of all kinds.
func (d *draw) any(states, odds int) api.Fst {
	f := api.Fst{States: states, Start: d.below(states), Final: make([]int, states)}
	for from := range states {
		for to := range states {
			if d.below(odds) == 0 {
				a := api.Arc{From: from, In: d.below(8), To: to}
				a.Out = a.In
				if d.below(20) == 0 {
					a.Out = d.below(8)
				}
				f.Arcs = append(f.Arcs, a)
			}
		}
	}
	f.Arcs = order.Least(f.Arcs)
	return f
}

// odd draws an acceptor in which some numbers may not stand there.
func (d *draw) odd() api.Fst {
	numbers := []int{math.MinInt, -2, -1, 0, 1, 2, 3, 9, 10, 12, 13, 200, 201, api.MaxWeight, api.MaxWeight + 1, math.MaxInt}
	f := twice()
	for range d.below(4) {
		a, b := &f.Arcs[0], &f.Arcs[1]
		places := []*int{&f.States, &f.Start, &f.Final[0], &f.Final[1], &a.From, &a.In, &a.Out, &a.To, &a.Weight, &b.In, &b.To}
		*places[d.below(len(places))] = numbers[d.below(len(numbers))]
	}
	return f
}

// arc of an acceptor.
func arc(from, letter, to, weight int) api.Arc {
	return api.Arc{From: from, In: letter, Out: letter, To: to, Weight: weight}
}

// twice is that of the document's example: two arcs by 1 from one state.
func twice() api.Fst {
	return api.Fst{States: 3, Final: []int{api.None, 2, 0}, Arcs: []api.Arc{arc(0, 1, 1, 3), arc(0, 1, 2, 4), arc(1, 2, 2, 5)}}
}

func same(f, g api.Fst) bool {
	return f.States == g.States && f.Start == g.Start && slices.Equal(f.Final, g.Final) && slices.Equal(f.Arcs, g.Arcs)
}

// cost of a word twice.
func cost(t *testing.T, f api.Fst, word []int) int {
	t.Helper()
	n, e := score.Score(f, word, word)
	if e != api.OK {
		t.Fatalf("%v %v: %d", f, word, e)
	}
	return n
}

// words of at most that many letters, of the first so many.
func words(n, letters int) [][]int {
	l := [][]int{nil}
	for i := 0; i < len(l) && len(l[i]) < n; i++ {
		for letter := 1; letter <= letters; letter++ {
			l = append(l, append(slices.Clone(l[i]), letter))
		}
	}
	return l
}
