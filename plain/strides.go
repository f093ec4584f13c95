package plain

import (
	"slices"

	"fareway/api"
	"fareway/spread"
)

// strides of an acceptor: what it costs at least from state to state by silent arcs alone; by just one arc of each letter; by each letter with silent arcs ahead of it and behind it; and to end, with silent arcs ahead of that.
type strides struct {
	start    int
	silent   table
	single   []table // that of the letter 1 first
	byLetter []table // so, too
	final    []int
}

func stridesOf(f api.Fst) *strides {
	s := &strides{start: f.Start}
	noLetter := reading(f, 0)
	for state := range f.States {
		row, _ := spread.Costs(spread.Only(f.States, state), noLetter, func(a api.Arc) (int, int) { return a.From, a.To })
		s.silent = append(s.silent, row)
	}
	for letter := 1; letter <= api.MaxLetter; letter++ {
		one := tableOf(f.States, reading(f, letter))
		s.single = append(s.single, one)
		s.byLetter = append(s.byLetter, through(through(s.silent, one), s.silent))
	}
	s.final, _ = spread.Costs(f.Final, noLetter, func(a api.Arc) (int, int) { return a.To, a.From })
	return s
}

// reading has the arcs that read that letter, 0 for none.
func reading(f api.Fst, letter int) []api.Arc {
	return slices.DeleteFunc(slices.Clone(f.Arcs), func(a api.Arc) bool { return a.In != letter })
}

// late: who must go along silent arcs can always do so ahead of the next letter, or of the end. So a stride to a state is needless if one can be at another state instead, and come there later on.
func (s *strides) late() net {
	return s.net(each(s.byLetter, func(t table) table {
		return thinned(t, s.silent, func(int) bool { return false })
	}))
}

// early: who must go along silent arcs can always do so behind the last letter. So a stride from a state is needless if one can be at another state already; but ahead of the first letter one is at the start, and nowhere else.
func (s *strides) early() net {
	return s.net(each(s.byLetter, func(t table) table {
		return turned(thinned(turned(t), turned(s.silent), func(from int) bool { return from == s.start }))
	}))
}

func (s *strides) net(letters []table) net {
	return net{begin: spread.Only(len(s.silent), s.start), final: s.final, letters: letters}.used()
}

// made has what may come, one after the other: those that are made soonest first.
func (s *strides) made() []func() api.Fst {
	return []func() api.Fst{
		func() api.Fst { return s.late().acceptor() },
		func() api.Fst { return s.early().acceptor() },
		func() api.Fst { return s.covered().lessened().acceptor() },
		func() api.Fst { return s.late().lessened().acceptor() },
		func() api.Fst { return s.early().lessened().acceptor() },
		func() api.Fst { return s.late().oneWay() },
	}
}
