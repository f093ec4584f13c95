package compose

import (
	"iter"

	"fareway/api"
)

// pair is where both are at the same time.
type pair struct{ first, second int }

// both is the transducer whose states are pairs, as far as it is made. In which order the two go when one of them needs nothing of the other is left open: ways that differ in that alone cost the same, so that the best one is as good.
type both struct {
	api.Fst
	f, g   api.Fst
	number map[pair]int
	pairs  []pair // by their numbers
}

func begin(f, g api.Fst) *both {
	b := &both{f: f, g: g, number: map[pair]int{}}
	b.Start = b.meet(pair{f.Start, g.Start})
	return b
}

// meet a pair: its number, which is a new one the first time.
func (b *both) meet(at pair) int {
	n, ok := b.number[at]
	if !ok {
		n = b.States
		b.number[at] = n
		b.pairs = append(b.pairs, at)
		b.States++
		b.Final = append(b.Final, b.end(at))
	}
	return n
}

// end: what it costs to end where both are; None, if one of them can't.
func (b *both) end(at pair) int {
	first, second := b.f.Final[at.first], b.g.Final[at.second]
	if first == api.None || second == api.None {
		return api.None
	}
	return first + second
}

// goAll the ways from where both begin; pairs that are met meanwhile are gone on from in their turn.
func (b *both) goAll() {
	for from := 0; from < b.States; from++ {
		b.goTogether(from)
		b.goAlone(from)
	}
}

// goTogether: the first one writes a letter, the second one reads it.
func (b *both) goTogether(from int) {
	at := b.pairs[from]
	for a := range leaving(b.f, at.first, func(a api.Arc) bool { return a.Out > 0 }) {
		for c := range leaving(b.g, at.second, func(c api.Arc) bool { return c.In == a.Out }) {
			b.lead(from, pair{a.To, c.To}, api.Arc{In: a.In, Out: c.Out, Weight: a.Weight + c.Weight})
		}
	}
}

// goAlone: the first one writes nothing, or the second one reads nothing; meanwhile the other one stays where it is.
func (b *both) goAlone(from int) {
	at := b.pairs[from]
	for a := range leaving(b.f, at.first, func(a api.Arc) bool { return a.Out == 0 }) {
		b.lead(from, pair{a.To, at.second}, api.Arc{In: a.In, Weight: a.Weight})
	}
	for c := range leaving(b.g, at.second, func(c api.Arc) bool { return c.In == 0 }) {
		b.lead(from, pair{at.first, c.To}, api.Arc{Out: c.Out, Weight: c.Weight})
	}
}

// lead to a pair by an arc of which the rest is told.
func (b *both) lead(from int, to pair, by api.Arc) {
	by.From, by.To = from, b.meet(to)
	b.Arcs = append(b.Arcs, by)
}

// leaving has the arcs from a state that are looked for.
func leaving(f api.Fst, state int, wanted func(api.Arc) bool) iter.Seq[api.Arc] {
	return func(yield func(api.Arc) bool) {
		for _, a := range f.Arcs {
			if a.From == state && wanted(a) && !yield(a) {
				return
			}
		}
	}
}
