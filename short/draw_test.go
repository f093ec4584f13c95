package short

import (
	"math"
	"slices"

	"fareway/api"
)

// draw: numbers that are the same each time.
type draw uint64

func (d *draw) below(n int) int {
	*d = *d*6364136223846793005 + 1442695040888963407
	return int(uint64(*d) >> 33 % uint64(n))
}

// fst draws a transducer: about one of odds possible arcs is there; many cost nothing.
func (d *draw) fst(states, letters, odds int) api.Fst {
	f := api.Fst{States: states, Start: d.below(states)}
	for range states {
		f.Final = append(f.Final, max(d.below(16)-10, api.None))
	}
	for n := range states * (letters + 1) * (letters + 1) * states {
		if d.below(odds) > 0 {
			continue
		}
		to, n := n%states, n/states
		out, n := n%(letters+1), n/(letters+1)
		in, from := n%(letters+1), n/(letters+1)
		f.Arcs = append(f.Arcs, arc(from, in, out, to, max(d.below(14)-4, 0)))
	}
	return f
}

// word draws one of fewer than n letters.
func (d *draw) word(n, letters int) []int {
	var l []int
	for range d.below(n) {
		l = append(l, 1+d.below(letters))
	}
	return l
}

// odd draws a transducer in which some numbers may not stand there.
func (d *draw) odd() api.Fst {
	numbers := []int{math.MinInt, -2, -1, 0, 1, 2, 9, 10, 199, 200, 201, api.MaxWeight, api.MaxWeight + 1, math.MaxInt}
	f := one()
	for range d.below(4) {
		a := &f.Arcs[0]
		places := []*int{&f.States, &f.Start, &f.Final[0], &f.Final[1], &a.From, &a.In, &a.Out, &a.To, &a.Weight}
		*places[d.below(len(places))] = numbers[d.below(len(numbers))]
	}
	return f
}

func arc(from, in, out, to, weight int) api.Arc {
	return api.Arc{From: from, In: in, Out: out, To: to, Weight: weight}
}

// one is the transducer of the document's examples: it reads 1 and writes 2 for 5, and ends for 1.
func one() api.Fst {
	return api.Fst{States: 2, Final: []int{api.None, 1}, Arcs: []api.Arc{arc(0, 1, 2, 1, 5)}}
}

func same(f, g api.Fst) bool {
	return f.States == g.States && f.Start == g.Start && slices.Equal(f.Final, g.Final) && slices.Equal(f.Arcs, g.Arcs)
}
