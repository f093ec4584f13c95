package simple

import (
	"iter"

	"fareway/api"
	"fareway/order"
	"fareway/sound"
)

// What a joint may need beyond its pieces: a silent arc for each end is much less than spareArcs.
const (
	spareStates = 2
	spareArcs   = 500
)

// fit: can these be the pieces of one joint?
func fit(pieces ...api.Fst) api.Errno {
	if e := sound.All(pieces...); e != api.OK {
		return e
	}
	states, arcs := 0, 0
	for _, f := range pieces {
		states, arcs = states+f.States, arcs+len(f.Arcs)
	}
	if states > api.MaxStates-spareStates || arcs > api.MaxArcs-spareArcs {
		return api.ErrMany
	}
	return api.OK
}

// joint is the transducer that is made of pieces, as far as it is made.
type joint struct{ api.Fst }

// begin with a piece, whose states keep their numbers.
func begin(f api.Fst) *joint {
	j := &joint{}
	j.Start = j.take(f)
	return j
}

// take a piece in behind those that are there: where it begins now.
func (j *joint) take(f api.Fst) int {
	by := j.States
	j.States += f.States
	j.Final = append(j.Final, f.Final...)
	j.Arcs = append(j.Arcs, made(f.Arcs, func(a api.Arc) api.Arc {
		a.From, a.To = a.From+by, a.To+by
		return a
	})...)
	return f.Start + by
}

// add a state where it costs that to end: its number.
func (j *joint) add(final int) int {
	j.States++
	j.Final = append(j.Final, final)
	return j.States - 1
}

// lead from a state to another one by a silent arc.
func (j *joint) lead(from, to, cost int) {
	j.Arcs = append(j.Arcs, api.Arc{From: from, To: to, Weight: cost})
}

// goOn to a state where the first piece could end: there it is paid for, and it is no end any more.
func (j *joint) goOn(first api.Fst, to int) {
	for state, cost := range ends(first) {
		j.Final[state] = api.None
		j.lead(state, to, cost)
	}
}

// done: the joint with its arcs in their order.
func (j *joint) done() api.Fst {
	j.Arcs = order.Least(j.Arcs)
	return j.Fst
}

// ends has the states where one can end, and what that costs.
func ends(f api.Fst) iter.Seq2[int, int] {
	return func(yield func(int, int) bool) {
		for state, cost := range f.Final {
			if cost != api.None && !yield(state, cost) {
				return
			}
		}
	}
}
