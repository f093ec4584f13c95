package plain

import (
	"slices"

	"fareway/api"
	"fareway/spread"
)

// strides of an acceptor: what it costs at least from state to state by silent arcs alone; by each letter, with silent arcs ahead of it and behind it; and to end, with silent arcs ahead of that.
type strides struct {
	start    int
	silent   table
	byLetter []table // that of the letter 1 first
	final    []int
}

func stridesOf(f api.Fst) *strides {
	s := &strides{start: f.Start}
	noLetter := reading(f, 0)
	for state := range f.States {
		row, _ := spread.Costs(spread.Only(f.States, state), noLetter, func(a api.Arc) (int, int) { return a.From, a.To })
		s.silent = append(s.silent, row)
	}
	for letter := 1; letter <= api.MaxLetter; letter++ {
		one := tableOf(f.States, reading(f, letter))
		s.byLetter = append(s.byLetter, through(through(s.silent, one), s.silent))
	}
	s.final, _ = spread.Costs(f.Final, noLetter, func(a api.Arc) (int, int) { return a.To, a.From })
	return s
}

// reading has the arcs that read that letter, 0 for none.
func reading(f api.Fst, letter int) []api.Arc {
	return slices.DeleteFunc(slices.Clone(f.Arcs), func(a api.Arc) bool { return a.In != letter })
}

// late: who must go along silent arcs can always do so ahead of the next letter, or of the end. So a stride to a state is needless if one can be at another state instead, and come there later on.
func (s *strides) late(letter table) table {
	return thinned(letter, s.silent, func(int) bool { return false })
}

// early is for where late leaves more arcs than there may be: who must go along silent arcs can always do so behind the last letter. So a stride from a state is needless if one can be at another state already; but ahead of the first letter one is at the start, and nowhere else.
func (s *strides) early(letter table) table {
	return turned(thinned(turned(letter), turned(s.silent), func(from int) bool { return from == s.start }))
}

// made has an arc for each stride by a letter that is left, if it lies on a way from the start to an end.
func (s *strides) made(left func(table) table) api.Fst {
	f := api.Fst{States: len(s.silent), Start: s.start, Final: slices.Clone(s.final)}
	var letters []table
	for _, t := range s.byLetter {
		letters = append(letters, left(t))
	}
	for from := range f.States {
		for i, t := range letters {
			for to, cost := range t[from] {
				if cost != api.None {
					f.Arcs = append(f.Arcs, api.Arc{From: from, In: i + 1, Out: i + 1, To: to, Weight: cost})
				}
			}
		}
	}
	return used(f)
}

// used has no arc and no end but those on a way from the start to an end: what is too many, or too great, elsewhere has no say.
func used(f api.Fst) api.Fst {
	come, _ := spread.Costs(spread.Only(f.States, f.Start), f.Arcs, func(a api.Arc) (int, int) { return a.From, a.To })
	lead, _ := spread.Costs(f.Final, f.Arcs, func(a api.Arc) (int, int) { return a.To, a.From })
	f.Arcs = slices.DeleteFunc(f.Arcs, func(a api.Arc) bool { return come[a.From] == api.None || lead[a.To] == api.None })
	for state := range f.Final {
		if come[state] == api.None {
			f.Final[state] = api.None
		}
	}
	return f
}
