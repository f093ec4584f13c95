package score

import (
	"container/heap"
	"slices"

	"fareway/api"
)

// noArc is by what the first spot is come to.
const noArc = -1

// spot is a state, and how many letters were read and written on the way there.
type spot struct{ state, read, written int }

// step is what it costs at least, as far as is known, to come to a spot, and the arc by which that is.
type step struct{ cost, arc int }

// search goes from spot to spot, those that cost less first.
type search struct {
	f       api.Fst
	in, out []int
	first   []int // the number of the first arc of each state; arcs stand by their From
	met     map[spot]step
	open    queue
}

func begin(f api.Fst, in, out []int) *search {
	s := &search{f: f, in: in, out: out, first: firstArcs(f), met: map[spot]step{}}
	s.meet(spot{state: f.Start}, step{arc: noArc})
	return s
}

// firstArcs has one element more than there are states, so that the arcs of a state end where those of the next one begin.
func firstArcs(f api.Fst) []int {
	first := make([]int, f.States+1)
	for _, a := range f.Arcs {
		first[a.From+1]++
	}
	for state := range f.States {
		first[state+1] += first[state]
	}
	return first
}

// find the spot where it is best to end, and what the way there and the end cost; end tells what it costs to end at a spot, or None.
func (s *search) find(end func(spot) int) (spot, int) {
	var last spot
	best := api.None
	for s.open.Len() > 0 {
		at := heap.Pop(&s.open).(place)
		if best != api.None && at.cost >= best {
			break
		}
		if at.cost > s.met[at.spot].cost {
			continue // a better way there was found since, and went on from there already
		}
		if cost := end(at.spot); cost != api.None && (best == api.None || at.cost+cost < best) {
			last, best = at.spot, at.cost+cost
		}
		s.goOn(at)
	}
	return last, best
}

// goOn along each arc that fits the words.
func (s *search) goOn(at place) {
	for n := s.first[at.state]; n < s.first[at.state+1]; n++ {
		a := s.f.Arcs[n]
		read, reads := use(s.in, at.read, a.In)
		written, writes := use(s.out, at.written, a.Out)
		if reads && writes {
			s.meet(spot{a.To, read, written}, step{at.cost + a.Weight, n})
		}
	}
}

// use a letter of a word behind those that are used already: how many are then, and whether it is the one that stands there.
func use(word []int, used, letter int) (int, bool) {
	if letter == 0 {
		return used, true
	}
	return used + 1, used < len(word) && word[used] == letter
}

// meet a spot. Only a way that costs less takes the place of another one: so no way has a spot twice, however many arcs cost nothing.
func (s *search) meet(at spot, by step) {
	if old, ok := s.met[at]; ok && old.cost <= by.cost {
		return
	}
	s.met[at] = by
	heap.Push(&s.open, place{at, by.cost})
}

// wayTo a spot: the numbers of its arcs.
func (s *search) wayTo(at spot) []int {
	var way []int
	for n := s.met[at].arc; n != noArc; n = s.met[at].arc {
		way = append(way, n)
		a := s.f.Arcs[n]
		at = spot{a.From, at.read - min(a.In, 1), at.written - min(a.Out, 1)}
	}
	slices.Reverse(way)
	return way
}
