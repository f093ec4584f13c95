package score

import "fareway/api"

// draw: numbers that are the same each time.
type draw uint64

func (d *draw) below(n int) int {
	*d = *d*6364136223846793005 + 1442695040888963407
	return int(uint64(*d) >> 33 % uint64(n))
}

// fst draws a transducer: about one of odds possible arcs is there; many cost nothing.
func (d *draw) fst(states, letters, odds int) api.Fst {
	f := api.Fst{States: states, Start: d.below(states)}
	for range states {
		f.Final = append(f.Final, max(d.below(12)-6, api.None))
	}
	for n := range states * (letters + 1) * (letters + 1) * states {
		if d.below(odds) > 0 {
			continue
		}
		to, n := n%states, n/states
		out, n := n%(letters+1), n/(letters+1)
		in, from := n%(letters+1), n/(letters+1)
		f.Arcs = append(f.Arcs, arc(from, in, out, to, max(d.below(12)-4, 0)))
	}
	return f
}

// word draws one of fewer than n letters.
func (d *draw) word(n, letters int) []int {
	var l []int
	for range d.below(n) {
		l = append(l, 1+d.below(letters))
	}
	return l
}

func arc(from, in, out, to, weight int) api.Arc {
	return api.Arc{From: from, In: in, Out: out, To: to, Weight: weight}
}

// again has n times the letter.
func again(letter, n int) []int {
	var l []int
	for range n {
		l = append(l, letter)
	}
	return l
}
