package plain

import (
	"math"
	"slices"

	"fareway/api"
)

// draw: numbers that are the same each time.
type draw uint64

func (d *draw) below(n int) int {
	*d = *d*6364136223846793005 + 1442695040888963407
	return int(uint64(*d) >> 33 % uint64(n))
}

// acceptor draws one: about one of odds possible arcs is there, about one of hush silent ones; weights are below dear, but many cost nothing.
func (d *draw) acceptor(states, letters, odds, hush, dear int) api.Fst {
	f := api.Fst{States: states, Start: d.below(states)}
	for range states {
		f.Final = append(f.Final, max(d.below(16)-10, api.None))
	}
	for from := range states {
		for letter := range letters + 1 {
			for to := range states {
				if letter == 0 && d.below(hush) == 0 || letter > 0 && d.below(odds) == 0 {
					f.Arcs = append(f.Arcs, arc(from, letter, to, d.below(2)*d.below(dear)))
				}
			}
		}
	}
	return f
}

// word draws one of fewer than n letters.
func (d *draw) word(n, letters int) []int {
	var l []int
	for range d.below(n) {
		l = append(l, 1+d.below(letters))
	}
	return l
}

// odd draws an acceptor in which some numbers may not stand there.
func (d *draw) odd() api.Fst {
	numbers := []int{math.MinInt, -2, -1, 0, 1, 2, 9, 10, 30, 31, 200, 201, api.MaxWeight, api.MaxWeight + 1, math.MaxInt}
	f := hushed()
	for range d.below(4) {
		a := &f.Arcs[0]
		places := []*int{&f.States, &f.Start, &f.Final[0], &f.Final[1], &a.From, &a.In, &a.Out, &a.To, &a.Weight}
		*places[d.below(len(places))] = numbers[d.below(len(numbers))]
	}
	return f
}

// arc of an acceptor.
func arc(from, letter, to, weight int) api.Arc {
	return api.Arc{From: from, In: letter, Out: letter, To: to, Weight: weight}
}

// hushed is that of the document's example: a silent arc for 5 to an end for 1.
func hushed() api.Fst {
	return api.Fst{States: 2, Final: []int{api.None, 1}, Arcs: []api.Arc{arc(0, 0, 1, 5)}}
}

func same(f, g api.Fst) bool {
	return f.States == g.States && f.Start == g.Start && slices.Equal(f.Final, g.Final) && slices.Equal(f.Arcs, g.Arcs)
}

// words of at most that many letters, of the first so many.
func words(n, letters int) [][]int {
	l := [][]int{nil}
	for i := 0; i < len(l) && len(l[i]) < n; i++ {
		for letter := 1; letter <= letters; letter++ {
			l = append(l, append(slices.Clone(l[i]), letter))
		}
	}
	return l
}
