package plain

import (
	"testing"

	"fareway/api"
	"fareway/fst"
	"fareway/order"
)

// all letters from a state to a state, each for what price tells.
func all(from, to int, price func(letter int) int) []api.Arc {
	var l []api.Arc
	for letter := 1; letter <= api.MaxLetter; letter++ {
		l = append(l, arc(from, letter, to, price(letter)))
	}
	return l
}

// large has as many states as may be, of which each costs what end tells to end at.
func large(end func(state int) int) api.Fst {
	f := api.Fst{States: mostStates}
	for state := range f.States {
		f.Final = append(f.Final, end(state))
	}
	return f
}

// gathered: silent arcs from all to the last one, from which all letters lead to all.
func gathered(silent, price, end func(int) int) api.Fst {
	f := large(end)
	last := f.States - 1
	for state := range last {
		f.Arcs = append(f.Arcs, arc(state, 0, last, silent(state)))
	}
	for state := range f.States {
		f.Arcs = append(f.Arcs, all(last, state, func(letter int) int { return price(state * letter) })...)
	}
	f.Arcs = order.Least(f.Arcs)
	return f
}

// scattered: silent arcs from the last one to all, from which all letters lead to it.
func scattered(silent, price, end func(int) int) api.Fst {
	f := gathered(silent, price, end)
	f.Start = f.States - 1
	for i, a := range f.Arcs {
		f.Arcs[i].From, f.Arcs[i].To = a.To, a.From
	}
	f.Arcs = order.Least(f.Arcs)
	return f
}

// chained: silent arcs from each one to the next one, and all letters from each one to itself.
func chained(silent, price, end func(int) int) api.Fst {
	f := large(end)
	for state := range f.States {
		if state > 0 {
			f.Arcs = append(f.Arcs, arc(state-1, 0, state, silent(state)))
		}
		f.Arcs = append(f.Arcs, all(state, state, func(letter int) int { return price(state * letter) })...)
	}
	f.Arcs = order.Least(f.Arcs)
	return f
}

// E1: few arcs, of which more than there may be would come if each state had those of all that silent arcs lead to: what comes passes Check all the same.
func TestNotTooManyArcs(t *testing.T) {
	d := draw(3)
	prices := map[string]func(int) int{
		"nothing": func(int) int { return 0 },
		"one":     func(int) int { return 1 },
		"rising":  func(n int) int { return 3 * n },
		"falling": func(n int) int { return 3000 - 7*n },
		"mixed":   func(n int) int { return n * 37 % 101 },
	}
	var l [][]int
	for range 20 {
		l = append(l, d.word(6, api.MaxLetter))
	}
	for a, silent := range prices {
		for b, price := range prices {
			for c, end := range prices {
				for shape, f := range map[string]api.Fst{
					"gathered": gathered(silent, price, end), "scattered": scattered(silent, price, end), "chained": chained(silent, price, end),
				} {
					g, e := Plain(f)
					if e != api.OK {
						t.Fatalf("%s, %s, %s, %s: it is %d", shape, a, b, c, e)
					}
					right(t, f, g, l)
				}
			}
		}
	}
}

// dense draws one with almost as many arcs as there may be, of which the silent ones are the dearest, so that few others are needless beside them.
func (d *draw) dense(states int) api.Fst {
	f := d.acceptor(states, api.MaxLetter, 3, 3, 2)
	f.Arcs = f.Arcs[:min(len(f.Arcs), api.MaxArcs-10)]
	for i, a := range f.Arcs {
		f.Arcs[i].Weight = d.below(100)
		if a.In == 0 {
			f.Arcs[i].Weight += 100
		}
	}
	return f
}

// E1: so many arcs, and so mixed, that no acceptor that could be found has few enough: too many, and then nothing.
func TestTooManyArcs(t *testing.T) {
	d := draw(4)
	for range 5 {
		if g, e := Plain(d.dense(mostStates)); e != api.ErrMany || !same(g, api.Fst{}) {
			t.Errorf("it is %v, %d", g, e)
		}
	}
}

// E1: ErrMany is told for a weight only if all of them together are more than may be, and where nothing else can be told.
func TestGreatWeights(t *testing.T) {
	none, most := api.None, api.MaxWeight
	chain := func(silent, letter, end int) api.Fst {
		return api.Fst{States: 3, Final: []int{none, none, end}, Arcs: []api.Arc{arc(0, 0, 1, silent), arc(1, 1, 2, letter)}}
	}
	hushed := func(first, second, end int) api.Fst {
		return api.Fst{States: 3, Final: []int{none, none, end}, Arcs: []api.Arc{arc(0, 0, 1, first), arc(1, 0, 2, second)}}
	}
	for _, c := range []struct {
		f    api.Fst
		want api.Errno
	}{
		{chain(most, 0, 0), api.OK},
		{chain(0, most, 0), api.OK},
		{chain(most-7, 4, 3), api.OK},
		{chain(0, most, most), api.OK},
		{hushed(most, 0, 0), api.OK},
		{hushed(0, most, 0), api.OK},
		{hushed(most-7, 4, 3), api.OK},
		{hushed(most-7, 4, 4), api.ErrMany},
		{hushed(most, 0, 1), api.ErrMany},
		{hushed(1, most, 0), api.ErrMany},
		{hushed(most, most, most), api.ErrMany},
		{chain(most, most, most), api.ErrMany},
	} {
		g, e := Plain(c.f)
		if e != c.want || e != api.OK && !same(g, api.Fst{}) {
			t.Errorf("%v: it is %v, %d and must be %d", c.f, g, e, c.want)
		} else if e == api.OK {
			right(t, c.f, g, words(2, 1))
		}
	}
}

// E1: the same by chance: weights that together are just as many as may be, or more.
func TestGreatWeightsOfMany(t *testing.T) {
	d := draw(5)
	refused := 0
	for range 3000 {
		f := d.acceptor(2+d.below(4), 1, 2+d.below(4), 2+d.below(4), 2)
		total, end := 0, 0
		for _, cost := range f.Final {
			end = max(end, cost)
		}
		part := api.MaxWeight / (1 + d.below(2*len(f.Arcs)+1))
		for i := range f.Arcs {
			f.Arcs[i].Weight = part - min(end, part)*d.below(2)
			total += f.Arcs[i].Weight
		}
		g, e := Plain(f)
		if e == api.ErrMany && total+end > api.MaxWeight && same(g, api.Fst{}) {
			refused++
			continue
		}
		if e != api.OK || fst.Check(g) != api.OK {
			t.Fatalf("%v: it is %v, %d", f, g, e)
		}
		right(t, f, g, words(4, 1))
	}
	if refused < 20 || refused > 1500 {
		t.Errorf("%d are refused: too few to tell", refused)
	}
}

// E1: what lies on no way from the start to an end has no say, however many arcs it has, and however dear they are.
func TestWhatIsNotUsed(t *testing.T) {
	d := draw(9)
	dense := d.dense(mostStates - 1)
	if _, e := Plain(dense); e != api.ErrMany {
		t.Fatalf("it is %d, and must be one that has too many arcs", e)
	}
	last := dense.States
	apart := api.Fst{States: last + 1, Start: last, Final: append(dense.Final, 4), Arcs: append(dense.Arcs, arc(last, 0, last, 1), arc(last, 1, last, 2))}
	dead := api.Fst{States: last + 1, Start: last, Final: make([]int, last+1), Arcs: order.Least(append(apart.Arcs, arc(last, 2, 0, 3)))}
	for state := range last {
		dead.Final[state] = api.None
	}
	dear := api.Fst{States: 4, Final: []int{1, api.None, api.None, api.MaxWeight}, Arcs: []api.Arc{
		arc(0, 1, 0, 2), arc(1, 0, 2, api.MaxWeight), arc(1, 0, 3, 1), arc(2, 1, 0, api.MaxWeight),
	}}
	for _, f := range []api.Fst{apart, dead, dear} {
		right(t, f, made(t, f), words(2, 2))
	}
}
