package least

import (
	"maps"
	"reflect"
	"slices"
	"testing"

	"fareway/api"
	"fareway/determine"
	"fareway/fst"
	"fareway/plain"
	"fareway/simple"
)

// made is what Least makes, which must be no error.
func made(t *testing.T, f api.Fst) api.Fst {
	t.Helper()
	g, e := Least(f)
	if e != api.OK {
		t.Fatalf("%v: it is %v, %d", f, g, e)
	}
	return g
}

// equal: in all, as what the words cost would have it.
func equal(f, g api.Fst) bool { return f.Start == g.Start && same(f, g) }

// H1 and example 8.
func TestLeastByHand(t *testing.T) {
	none := api.None
	nothing := api.Fst{States: 1, Final: []int{none}}
	for _, c := range []struct{ f, want api.Fst }{
		{
			api.Fst{States: 2, Final: []int{none, 1}, Arcs: []api.Arc{arc(0, 1, 1, 5)}},
			api.Fst{States: 2, Final: []int{none, 0}, Arcs: []api.Arc{arc(0, 1, 1, 6)}},
		},
		{nothing, nothing},
		{api.Fst{States: 1, Final: []int{7}}, api.Fst{States: 1, Final: []int{7}}},
		// No word can be: no way leads to an end, or none from the start.
		{api.Fst{States: 3, Final: []int{none, none, none}, Arcs: []api.Arc{arc(0, 1, 1, 5), arc(1, 2, 2, 5)}}, nothing},
		{api.Fst{States: 2, Start: 1, Final: []int{4, none}, Arcs: []api.Arc{arc(0, 1, 1, 5)}}, nothing},
		// What all words cost stays at the start; its end and its arcs have it.
		{line(1, 2, 3), line(6, 0, 0)},
		{
			api.Fst{States: 2, Final: []int{3, 2}, Arcs: []api.Arc{arc(0, 9, 1, 5)}},
			api.Fst{States: 2, Final: []int{3, 0}, Arcs: []api.Arc{arc(0, 9, 1, 7)}},
		},
		{
			twice(),
			api.Fst{States: 3, Final: []int{none, 0, 0}, Arcs: []api.Arc{arc(0, 1, 1, 4), arc(1, 2, 2, 4)}},
		},
		// States are numbered level by level, by rising letters, whatever they were; two that go on alike, but for what both cost more, are one.
		{
			api.Fst{States: 6, Start: 5, Final: []int{none, 2, none, 9, none, none}, Arcs: []api.Arc{
				arc(0, 3, 1, 1), arc(2, 3, 3, 4), arc(4, 1, 1, 0), arc(5, 2, 0, 0), arc(5, 3, 4, 0), arc(5, 7, 2, 0),
			}},
			api.Fst{States: 4, Final: []int{none, none, none, 0}, Arcs: []api.Arc{
				arc(0, 2, 1, 3), arc(0, 3, 2, 2), arc(0, 7, 1, 13), arc(1, 3, 3, 0), arc(2, 1, 3, 0),
			}},
		},
		// Two that go on to the same states, but not for the same, are two.
		{
			api.Fst{States: 4, Final: []int{none, none, none, 0}, Arcs: []api.Arc{
				arc(0, 1, 1, 0), arc(0, 2, 2, 0), arc(1, 1, 3, 0), arc(1, 2, 3, 1), arc(2, 1, 3, 1), arc(2, 2, 3, 0),
			}},
			api.Fst{States: 4, Final: []int{none, none, none, 0}, Arcs: []api.Arc{
				arc(0, 1, 1, 0), arc(0, 2, 2, 0), arc(1, 1, 3, 0), arc(1, 2, 3, 1), arc(2, 1, 3, 1), arc(2, 2, 3, 0),
			}},
		},
	} {
		if g := made(t, c.f); !equal(g, c.want) {
			t.Errorf("%v: it is %v and must be %v", c.f, g, c.want)
		}
	}
}

// fine: it passes Check, Is, does not go Round, and each state but the first one has an arc, or an end, for nothing.
func fine(t *testing.T, f api.Fst) {
	t.Helper()
	is, e := determine.Is(f)
	round, _ := determine.Round(f)
	if e != api.OK || !is || round {
		t.Fatalf("%v: Is says %v, %d, and Round %v", f, is, e, round)
	}
	for state := 1; state < f.States; state++ {
		free := slices.ContainsFunc(f.Arcs, func(a api.Arc) bool { return a.From == state && a.Weight == 0 })
		if !free && f.Final[state] != 0 {
			t.Fatalf("%v: nothing is for nothing at %d", f, state)
		}
	}
	if g, _ := fst.Trim(f); f.States > 1 && !equal(f, g) {
		t.Fatalf("%v: trimmed it is %v", f, g)
	}
}

// H1, H3: many, held against what is made of all words, one by one.
func TestLeastOfMany(t *testing.T) {
	d := draw(1)
	refused, taken, merged := 0, 0, 0
	for range 2000 {
		f := d.acceptor(1+d.below(10), 1+d.below(3), 1+d.below(8), 1+d.below(5))
		l := costs(f)
		g, e := Least(f)
		if beginnings(l) > api.MaxStates {
			refused++
			if e != api.ErrMany || !equal(g, api.Fst{}) {
				t.Fatalf("%v has %d beginnings: it is %v, %d", f, beginnings(l), g, e)
			}
			continue
		}
		taken++
		if want := byWords(l); e != api.OK || !equal(g, want) {
			t.Fatalf("%v: it is %v, %d and must be %v", f, g, e, want)
		}
		fine(t, g)
		if g.States < beginnings(l) {
			merged++
		}
		// The least one may have more states than one of which the least one may be asked.
		if h, e := Least(g); g.States <= api.MaxLeast && (e != api.OK || !equal(g, h)) || g.States > api.MaxLeast && e != api.ErrMany {
			t.Fatalf("%v: the least one is %v, and of that %v, %d", f, g, h, e)
		}
	}
	if refused < 20 || taken < 1000 || merged < 500 {
		t.Errorf("%d are refused, %d taken, %d merged: too few to tell", refused, taken, merged)
	}
}

// H1: whichever one with one way for each word it is made of.
func TestLeastOfWhicheverComes(t *testing.T) {
	none := api.None
	late := api.Fst{States: 6, Start: 1, Final: []int{3, none, none, 4, none, 9}, Arcs: []api.Arc{
		arc(1, 1, 2, 1), arc(1, 2, 3, 0), arc(1, 3, 4, 0), arc(2, 1, 0, 1), arc(2, 2, 4, 0), arc(5, 1, 0, 0),
	}}
	want := api.Fst{States: 3, Final: []int{none, none, 0}, Arcs: []api.Arc{arc(0, 1, 1, 5), arc(0, 2, 2, 4), arc(1, 1, 2, 0)}}
	if g := leastOf(late); !equal(g, want) || !equal(made(t, late), want) {
		t.Errorf("it is %v, or %v, and must be %v", g, made(t, late), want)
	}
}

// H2, H3: what is made another one, so that it costs the same, is the same.
func TestSameThings(t *testing.T) {
	d := draw(2)
	for range 500 {
		f := d.acceptor(1+d.below(7), 2, 2+d.below(4), 1+d.below(6))
		want, e := Least(f)
		if e != api.OK {
			continue
		}
		either, _ := simple.Either(f, f)
		either, e = plain.Plain(either)
		one, h := determine.Determine(f)
		if e != api.OK || h != api.OK {
			t.Fatalf("%v: it is %d, %d", f, e, h)
		}
		for _, g := range []api.Fst{d.shuffled(f), d.split(f), d.split(d.split(d.shuffled(f))), d.moved(f), d.moved(d.moved(d.split(f))), either, one, want} {
			if g.States > api.MaxLeast {
				continue
			}
			if least := made(t, g); !equal(least, want) {
				t.Fatalf("%v and %v: it is %v and must be %v", f, g, least, want)
			}
			if is, e := Same(f, g); !is || e != api.OK {
				t.Fatalf("%v and %v: it is %v, %d", f, g, is, e)
			}
		}
	}
}

// H2, H3: two are the same just if each word costs the same, and just if their least ones are.
func TestSameOfMany(t *testing.T) {
	d := draw(3)
	can := 0
	for range 5000 {
		f := d.acceptor(1+d.below(3), 1, 1+d.below(3), 2)
		g := d.acceptor(1+d.below(3), 1, 1+d.below(3), 2)
		want := maps.Equal(costs(f), costs(g))
		if is, e := Same(f, g); is != want || e != api.OK {
			t.Fatalf("%v and %v: it is %v, %d and must be %v", f, g, is, e, want)
		}
		if reflect.DeepEqual(made(t, f), made(t, g)) != want {
			t.Fatalf("%v and %v: their least ones are %v and %v", f, g, made(t, f), made(t, g))
		}
		if want {
			can++
		}
	}
	if can < 300 || can > 4700 {
		t.Errorf("%d are the same: too few, or too many, to tell", can)
	}
}

// H2: what differs but a little differs.
func TestNotSame(t *testing.T) {
	none := api.None
	f := line(1, 2, 3)
	for _, g := range []api.Fst{
		line(1, 2, 4), line(0, 2, 3), line(1, 2, none),
		{States: 3, Final: []int{none, 9, 3}, Arcs: f.Arcs},
		{States: 3, Final: []int{0, none, 3}, Arcs: f.Arcs},
		{States: 3, Final: f.Final, Arcs: []api.Arc{arc(0, 1, 1, 1), arc(1, 2, 2, 2)}},
		{States: 3, Final: f.Final, Arcs: []api.Arc{arc(0, 1, 1, 1), arc(1, 1, 2, 2), arc(1, 2, 2, 2)}},
	} {
		for _, l := range [][2]api.Fst{{f, g}, {g, f}} {
			if is, e := Same(l[0], l[1]); is || e != api.OK {
				t.Errorf("%v and %v: it is %v, %d", l[0], l[1], is, e)
			}
		}
	}
	if is, e := Same(f, line(6, 0, 0)); !is || e != api.OK {
		t.Errorf("it is %v, %d", is, e)
	}
}
