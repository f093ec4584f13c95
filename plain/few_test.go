package plain

import (
	"slices"
	"testing"

	"fareway/api"
	"fareway/fst"
	"fareway/order"
)

// crossed: silent arcs from each of the first states to the last but one, and from the last one to each of them; some letters from the last but one to each of them, others from each of them to the last one. So silent arcs ahead of each letter would be too many, and behind each one, too.
func crossed(start int, price func() int) api.Fst {
	f := large(func(int) int { return price() })
	f.Start = start
	to, from := f.States-2, f.States-1
	for state := range to {
		f.Arcs = append(f.Arcs, arc(state, 0, to, price()), arc(from, 0, state, price()))
		for letter := 1; letter <= 4; letter++ {
			f.Arcs = append(f.Arcs, arc(to, letter, state, price()), arc(state, letter+4, from, price()))
		}
	}
	f.Arcs = order.Least(f.Arcs)
	return f
}

// hubbed: many arcs by letters between all states, and silent ones from each state to the last one and back.
func (d *draw) hubbed(odds int) api.Fst {
	f := d.acceptor(mostStates, api.MaxLetter, odds, 1000000, 1000)
	last := f.States - 1
	for state := range last {
		f.Arcs = append(f.Arcs, arc(state, 0, last, d.below(1000)), arc(last, 0, state, d.below(1000)))
	}
	f.Arcs = order.Least(f.Arcs)
	return f
}

// twins: two states for each one of a smaller acceptor; arcs lead to the one or to the other.
func (d *draw) twins(dear int) api.Fst {
	half := d.acceptor(mostStates/2, api.MaxLetter, 3, 8, dear)
	f := api.Fst{States: mostStates, Start: half.Start, Final: append(half.Final, half.Final...)}
	for _, a := range half.Arcs {
		for from := a.From; from < f.States; from += half.States {
			f.Arcs = append(f.Arcs, arc(from, a.In, a.To+half.States*d.below(2), a.Weight))
		}
	}
	f.Arcs = order.Least(f.Arcs)
	return f
}

// forked: two states for each one of a smaller acceptor; arcs lead to both of them, and from the one or from the other, but all that begins begins at one.
func (d *draw) forked(dear int) api.Fst {
	half := d.acceptor(mostStates/2, api.MaxLetter, 3, 1000000, dear)
	half.Start = 0
	f := api.Fst{States: mostStates, Final: make([]int, mostStates)}
	for state, cost := range half.Final {
		f.Final[state], f.Final[state+half.States] = cost, api.None
		if state > 0 && d.below(2) == 0 {
			f.Final[state], f.Final[state+half.States] = api.None, cost
		}
	}
	for _, a := range half.Arcs {
		from := a.From + half.States*d.below(min(a.From+1, 2))
		if a.To > 0 {
			f.Arcs = append(f.Arcs, arc(from, a.In, a.To, a.Weight), arc(from, a.In, a.To+half.States, a.Weight))
		}
	}
	f.Arcs = order.Least(f.Arcs)
	return f
}

// crowded draws one with almost as many arcs as there may be, which cost less than dear; so many of its states are final.
func (d *draw) crowded(hush, ends, dear int) api.Fst {
	f := large(func(state int) int { return max(min(ends-state, 1)-1, api.None) })
	f.Start = d.below(f.States)
	for n := range f.States * f.States {
		from, to := n/f.States, n%f.States
		if d.below(hush) == 0 {
			f.Arcs = append(f.Arcs, arc(from, 0, to, d.below(dear)))
		}
		for letter := 1; letter <= api.MaxLetter; letter++ {
			if d.below(100) < 36 {
				f.Arcs = append(f.Arcs, arc(from, letter, to, d.below(dear)))
			}
		}
	}
	f.Arcs = order.Least(f.Arcs)
	return f
}

func (d *draw) words(n, letters int) [][]int {
	l := [][]int{nil}
	for range 20 {
		l = append(l, d.word(n, letters))
	}
	return l
}

// few: neither late nor early has few enough arcs, so that another one must come; and it comes.
func few(t *testing.T, d *draw, f api.Fst) {
	t.Helper()
	if e := fst.Check(f); e != api.OK {
		t.Fatalf("it is wrong itself: %d", e)
	}
	s := stridesOf(f)
	if l, e := len(s.late().arcs()), len(s.early().arcs()); l <= api.MaxArcs || e <= api.MaxArcs {
		t.Fatalf("there are but %d arcs, or %d: too few to tell", l, e)
	}
	right(t, f, made(t, f), d.words(7, api.MaxLetter))
}

// E1: no other error but those that are named: what has too many arcs if silent arcs are gone ahead of each letter, and if behind each one, too, comes all the same.
func TestFewArcs(t *testing.T) {
	d := draw(10)
	for _, start := range []int{0, 13, mostStates - 2, mostStates - 1} {
		few(t, &d, crossed(start, func() int { return 0 }))
		few(t, &d, crossed(start, func() int { return 7 }))
		few(t, &d, crossed(start, func() int { return d.below(3) }))
		few(t, &d, crossed(start, func() int { return d.below(1000) }))
	}
	for odds := 4; odds <= 6; odds++ {
		few(t, &d, d.hubbed(odds))
	}
}

// E1: arcs by letters are almost as many as may be, already: with silent ones left out there would be more, but for those that are needless, states that are alike, or one way for each word.
func TestCrowded(t *testing.T) {
	for _, c := range []struct {
		seed             draw
		hush, ends, dear int
	}{
		{1, 40, 1, 2}, {1, 60, 1, 2}, {2, 40, 30, 3}, {2, 80, 3, 1}, {3, 30, 10, 3}, {5, 40, 1, 2}, {7, 100, 1, 1}, {32, 60, 1, 1}, {36, 30, 1, 3}, {43, 30, 1, 3},
	} {
		f := c.seed.crowded(c.hush, c.ends, c.dear)
		few(t, &c.seed, f)
	}
}

// E1: one state between many, by which all silent ways lead, is gone to behind a letter, and from ahead of one: so there are not many more arcs than there were.
func TestCovered(t *testing.T) {
	d := draw(11)
	for range 5 {
		f := crossed(d.below(mostStates), func() int { return d.below(1000) })
		n := stridesOf(f).covered()
		right(t, f, n.acceptor(), d.words(7, 8))
		if len(n.arcs()) > 2*len(f.Arcs) {
			t.Errorf("%d arcs of %d", len(n.arcs()), len(f.Arcs))
		}
		g := d.hubbed(6)
		n = stridesOf(g).covered()
		right(t, g, n.acceptor(), d.words(5, 9))
		if len(n.arcs()) > len(g.Arcs)+3*api.MaxLetter*mostStates {
			t.Errorf("%d arcs of %d", len(n.arcs()), len(g.Arcs))
		}
	}
}

// star: silent arcs from some states to the last one, and from it to some; letters from each of the others to some one.
func (d *draw) star() api.Fst {
	f := large(func(int) int { return d.below(1000) })
	last := f.States - 1
	for state := range last {
		if d.below(2) == 0 {
			f.Arcs = append(f.Arcs, arc(state, 0, last, d.below(1000)))
		}
		if d.below(2) == 0 {
			f.Arcs = append(f.Arcs, arc(last, 0, state, d.below(1000)))
		}
		f.Arcs = append(f.Arcs, all(state, d.below(last), func(int) int { return d.below(1000) })...)
	}
	f.Arcs = order.Least(f.Arcs)
	return f
}

// E1: the state that serves the most is taken first.
func TestServesTheMost(t *testing.T) {
	d := draw(16)
	for range 10 {
		f := d.star()
		n := stridesOf(f).covered()
		right(t, f, n.acceptor(), d.words(5, 9))
		if len(n.arcs()) > 3*len(f.Arcs) {
			t.Errorf("%d arcs of %d", len(n.arcs()), len(f.Arcs))
		}
	}
}

// E1: of what is chosen nothing can be left out.
func TestChoice(t *testing.T) {
	d := draw(15)
	for range 100 {
		s := stridesOf(d.acceptor(2+d.below(8), 3, 2+d.below(6), 2+d.below(6), 1+d.below(9)))
		c := coverOf(s)
		l := c.few()
		if c.open(l) > 0 {
			t.Fatalf("%v: not all is served: %v", s, l)
		}
		for state := range c.silent {
			for other := range c.silent {
				if l.atOnce[other].has(state) {
					l.atOnce[other] = l.atOnce[other].without(state)
					if c.open(l) == 0 {
						t.Fatalf("%v: from %d at once to %d is not asked for", s, other, state)
					}
					l.atOnce[other] = l.atOnce[other].with(state)
				}
				if l.laterOn[other].has(state) && state != c.start {
					l.laterOn[other] = l.laterOn[other].without(state)
					if c.open(l) == 0 {
						t.Fatalf("%v: from %d later on to %d is not asked for", s, state, other)
					}
					l.laterOn[other] = l.laterOn[other].with(state)
				}
			}
		}
	}
}

// Two states from which all costs the same, or to which, become one.
func TestLessened(t *testing.T) {
	d := draw(12)
	for range 10 {
		dear := 2 + d.below(20)
		for _, f := range []api.Fst{d.twins(dear), d.forked(dear)} {
			n := stridesOf(f).late().lessened()
			right(t, f, n.acceptor(), d.words(6, 9))
			if g, _ := fst.Trim(n.acceptor()); g.States > mostStates/2 {
				t.Errorf("%d states are left", g.States)
			}
		}
	}
}

// From the one state all costs 2 more than from the other one: told early, they are one.
func TestOneWayToldEarly(t *testing.T) {
	f := api.Fst{States: 3, Final: []int{api.None, 1, 3}, Arcs: []api.Arc{arc(0, 1, 1, 0), arc(0, 2, 2, 0), arc(1, 1, 1, 4), arc(2, 1, 2, 4)}}
	want := api.Fst{States: 2, Final: []int{api.None, 0}, Arcs: []api.Arc{arc(0, 1, 1, 1), arc(0, 2, 1, 3), arc(1, 1, 1, 4)}}
	if g := stridesOf(f).late().oneWay(); !same(g, want) {
		t.Errorf("it is %v and must be %v", g, want)
	}
}

// An arc that costs no less than another one, with silent arcs ahead of it and behind it, is left out; of two that cost the same one stays.
func TestCore(t *testing.T) {
	none := api.None
	f := api.Fst{States: 3, Final: []int{none, none, 0}, Arcs: []api.Arc{
		arc(0, 0, 1, 1), arc(0, 1, 1, 4), arc(0, 1, 2, 7), arc(0, 2, 2, 5), arc(1, 0, 2, 2), arc(1, 1, 1, 4), arc(1, 2, 2, 5), arc(2, 0, 1, 0),
	}}
	core := stridesOf(f).core()
	for i, want := range []table{
		{{none, 4, none}, {none, 4, none}, {none, none, none}},
		{{none, none, 5}, {none, none, 5}, {none, none, none}},
	} {
		for from, row := range want {
			if !slices.Equal(core[i][from], row) {
				t.Errorf("by %d from %d it is %v and must be %v", i+1, from, core[i][from], row)
			}
		}
	}
	f.Arcs[0].Weight = 0
	if l := stridesOf(f).core()[1]; l[0][2] != none || l[1][2] != 5 {
		t.Errorf("it is %v", l)
	}
	g := api.Fst{States: 2, Final: []int{0, 0}, Arcs: []api.Arc{arc(0, 0, 1, 0), arc(0, 1, 0, 3), arc(0, 1, 1, 3), arc(1, 0, 0, 0), arc(1, 1, 0, 3), arc(1, 1, 1, 3)}}
	if l := stridesOf(g).core()[0]; len(net{final: g.Final, letters: []table{l}}.arcs()) != 1 {
		t.Errorf("it is %v", l)
	}
}

// From the state 1 all can be done that can be done from 2, for no more: so it makes no difference how dear it is to be there, which would rise for ever.
func TestOneWayWhereNothingIsNearer(t *testing.T) {
	f := api.Fst{States: 3, Final: []int{api.None, 0, 0}, Arcs: []api.Arc{arc(0, 1, 1, 0), arc(0, 1, 2, 0), arc(1, 2, 1, 0), arc(2, 2, 2, 1)}}
	want := api.Fst{States: 2, Final: []int{api.None, 0}, Arcs: []api.Arc{arc(0, 1, 1, 0), arc(1, 2, 1, 0)}}
	if g := stridesOf(f).late().oneWay(); !same(g, want) {
		t.Errorf("it is %v and must be %v", g, want)
	}
}

// E1: what comes has no more states, even if one way for each word has more and few enough arcs.
func TestNoMoreStates(t *testing.T) {
	refused := 0
	for seed := draw(2); seed < 6; seed++ {
		d := seed
		f := d.crowded(40, 1, 3)
		if fst.Check(f) != api.OK {
			continue
		}
		g, e := Plain(f)
		if e == api.OK {
			right(t, f, g, nil)
			continue
		}
		refused++
		if e != api.ErrMany || !same(g, api.Fst{}) {
			t.Fatalf("it is %v, %d", g, e)
		}
	}
	if refused == 0 {
		t.Error("none is refused: too few to tell")
	}
}

// E1: one way for each word is found where many states become few.
func TestOneWay(t *testing.T) {
	d := draw(13)
	found := 0
	for range 300 {
		f := d.acceptor(2+d.below(6), 2, 3+d.below(4), 3+d.below(8), 1+d.below(3))
		g := stridesOf(f).late().oneWay()
		if g.States == 0 || g.States > f.States {
			continue
		}
		found++
		right(t, f, g, words(5, 2))
		for i := 1; i < len(g.Arcs); i++ {
			if g.Arcs[i].From == g.Arcs[i-1].From && g.Arcs[i].In == g.Arcs[i-1].In {
				t.Fatalf("%v: two arcs by one letter: %v", f, g)
			}
		}
	}
	if found < 50 || found > 290 {
		t.Errorf("%d are found: too few, or too many, to tell", found)
	}
}

// What near tells must hold for each word: from the one state on it costs no more than that much more.
func TestNear(t *testing.T) {
	d := draw(14)
	told := 0
	for range 200 {
		f := d.acceptor(2+d.below(4), 2, 2+d.below(4), 1000000, 4)
		n := stridesOf(f).late()
		near := n.near()
		for one, row := range near {
			for other, more := range row {
				if one == other && more != 0 {
					t.Fatalf("%v: from %d it is %d more than from there", f, one, more)
				}
				if one == other || more == api.None {
					continue
				}
				told++
				for _, w := range words(5, 2) {
					a, b := n.acceptor(), n.acceptor()
					a.Start, b.Start = one, other
					if x, y := cost(t, a, w), cost(t, b, w); y != api.None && (x == api.None || x > y+more) {
						t.Fatalf("%v: %v costs %d from %d and %d from %d, which may be %d more", f, w, x, one, y, other, more)
					}
				}
			}
		}
	}
	if told < 500 {
		t.Errorf("only %d are told: too few to tell", told)
	}
}
