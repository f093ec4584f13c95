package fst

import "fareway/api"

// draw: numbers that are the same each time.
type draw uint64

func (d *draw) below(n int) int {
	*d = *d*6364136223846793005 + 1442695040888963407
	return int(uint64(*d) >> 33 % uint64(n))
}

// fst draws a transducer of few states: about one of odds possible arcs is there.
func (d *draw) fst(states, letters, odds int) api.Fst {
	f := api.Fst{States: states, Start: d.below(states)}
	for range states {
		f.Final = append(f.Final, max(d.below(15)-10, api.None))
	}
	for n := range states * (letters + 1) * (letters + 1) * states {
		if d.below(odds) > 0 {
			continue
		}
		to, n := n%states, n/states
		out, n := n%(letters+1), n/(letters+1)
		in, from := n%(letters+1), n/(letters+1)
		f.Arcs = append(f.Arcs, api.Arc{From: from, In: in, Out: out, To: to, Weight: d.below(10)})
	}
	return f
}

func arc(from, in, out, to, weight int) api.Arc {
	return api.Arc{From: from, In: in, Out: out, To: to, Weight: weight}
}

// full has as many states and arcs as may be, and numbers as long as may be.
func full() api.Fst {
	f := api.Fst{States: api.MaxStates, Start: api.MaxStates - 1}
	for range f.States {
		f.Final = append(f.Final, api.MaxWeight)
	}
	for n := range api.MaxArcs {
		f.Arcs = append(f.Arcs, arc(n/15, 9, 9, 185+n%15, api.MaxWeight))
	}
	return f
}
