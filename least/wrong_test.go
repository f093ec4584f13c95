package least

import (
	"reflect"
	"slices"
	"testing"

	"fareway/api"
	"fareway/fst"
)

// sized has that many states, which all are final.
func sized(states int, arcs ...api.Arc) api.Fst {
	return api.Fst{States: states, Final: make([]int, states), Arcs: arcs}
}

// full has so many levels, each with arcs by some letters to the next one; it ends at each of them.
func full(levels, letters int) api.Fst {
	f := sized(levels + 1)
	for level := range levels {
		for letter := 1; letter <= letters; letter++ {
			f.Arcs = append(f.Arcs, arc(level, letter, level+1, 0))
		}
	}
	return f
}

// wrong ones, and what is told of them.
func wrong() map[api.Errno][]api.Fst {
	looped := full(7, 2)
	looped.Arcs = append(looped.Arcs, arc(7, 1, 0, 0))
	dear := sized(3)
	dear.Final[2] = -2
	many := sized(13, arc(0, 0, 1, 0), arc(1, 1, 0, 0))
	return map[api.Errno][]api.Fst{
		api.ErrRange: {{}, dear, sized(201, arc(0, 0, 0, 0)), sized(1, arc(0, 10, 0, 0)), sized(2, arc(0, 1, 1, -1))},
		api.ErrNone:  {{States: 13, Start: 13, Final: make([]int, 13)}, sized(1, arc(0, 0, 1, 0)), {States: 1, Start: -1, Final: []int{0}}},
		api.ErrForm:  {{States: 13}, {States: 1, Final: []int{0, 0}}},
		// More states than may be are told of ahead of all that is wrong with arcs; what has too many words is told of behind it.
		api.ErrMany: {sized(13), sized(200), many, sized(1, make([]api.Arc, 3001)...), full(7, 2), full(11, 9), line(api.MaxWeight, 1, 0)},
		api.ErrState: {
			sized(1, make([]api.Arc, 2)...), sized(12, arc(0, 0, 1, 0)), sized(12, api.Arc{In: 1, Out: 2, To: 1}), sized(12, api.Arc{From: 10, In: 1, To: 11}),
			sized(12, arc(5, 1, 5, 0)), sized(12, arc(4, 1, 5, 0), arc(5, 1, 4, 0)), looped,
		},
	}
}

// H1, H2, P1: errors, and nothing with them: of Same those of the first one, then of the second one.
func TestWrongOnes(t *testing.T) {
	fine := twice()
	for want, l := range wrong() {
		for _, f := range l {
			if g, e := Least(f); e != want || !equal(g, api.Fst{}) {
				t.Errorf("%v: it is %v, %d and must be %d", f, g, e, want)
			}
			if is, e := Same(f, fine); is || e != want {
				t.Errorf("%v, and one that is not wrong: it is %v, %d and must be %d", f, is, e, want)
			}
			if is, e := Same(fine, f); is || e != want {
				t.Errorf("one that is not wrong, and %v: it is %v, %d and must be %d", f, is, e, want)
			}
			for _, m := range wrong() {
				for _, g := range m {
					if is, e := Same(f, g); is || e != want {
						t.Errorf("%v and %v: it is %v, %d and must be %d", f, g, is, e, want)
					}
				}
			}
		}
	}
}

// H1: as many states, and as many beginnings, as may be.
func TestAsManyAsMayBe(t *testing.T) {
	for _, f := range []api.Fst{sized(12), full(11, 1), full(6, 2), full(2, 9)} {
		if g := made(t, f); !equal(g, byWords(costs(f))) {
			t.Errorf("%v: it is %v", f, g)
		}
	}
	// 1 to 9, then 1 to 9, then 1 to 9 behind some: 1, 9, 81, and 9 for each of those.
	wide := func(more int) api.Fst {
		f := sized(5)
		f.Final = []int{api.None, api.None, api.None, api.None, 0}
		for letter := 1; letter <= 9; letter++ {
			f.Arcs = append(f.Arcs, arc(0, letter, 1, 0))
		}
		for letter := 1; letter <= 9; letter++ {
			f.Arcs = append(f.Arcs, arc(1, letter, 2, 0))
		}
		for letter := 1; letter <= more; letter++ {
			f.Arcs = append(f.Arcs, arc(2, letter, 4, 0))
		}
		return f
	}
	if n := beginnings(costs(wide(1))); n != 172 || made(t, wide(1)).States != 4 {
		t.Errorf("of %d beginnings it is %v", n, made(t, wide(1)))
	}
	if g, e := Least(wide(2)); e != api.ErrMany || !equal(g, api.Fst{}) {
		t.Errorf("of %d beginnings it is %v, %d", beginnings(costs(wide(2))), g, e)
	}
}

// counting has just n beginnings: one, and so many as are behind its one arc, or its two.
func counting(n int) api.Fst {
	f := sized(1)
	for n--; n > 0; n-- {
		from := len(f.Final) - 1
		f.Arcs = append(f.Arcs, arc(from, 1, from+1, 0))
		if n%2 == 0 {
			f.Arcs = append(f.Arcs, arc(from, 2, from+1, 0))
			n /= 2
		}
		f.Final = append(f.Final, 0)
	}
	f.States = len(f.Final)
	return f
}

// H1: beginnings are counted one by one: not words, and not ways.
func TestBeginnings(t *testing.T) {
	for n := 1; n <= 300; n++ {
		// Of 200 and 201 it has few enough states.
		f := counting(n)
		if f.States > api.MaxLeast {
			continue
		}
		if is := beginnings(costs(f)); is != n {
			t.Fatalf("%v has %d beginnings, not %d", f, is, n)
		}
		g, e := Least(f)
		if n > api.MaxStates && (e != api.ErrMany || !equal(g, api.Fst{})) {
			t.Fatalf("of %d beginnings it is %v, %d", n, g, e)
		}
		if n <= api.MaxStates && (e != api.OK || !equal(g, byWords(costs(f)))) {
			t.Fatalf("of %d beginnings it is %v, %d", n, g, e)
		}
		// Another way for each word, or what leads to no end, makes no difference.
		if f.States+2 > api.MaxLeast {
			continue
		}
		more := api.Fst{States: f.States + 2, Final: append(slices.Clone(f.Final), 0, api.None)}
		for _, a := range f.Arcs {
			more.Arcs = append(more.Arcs, a)
			if a.To == f.States-1 {
				more.Arcs = append(more.Arcs, arc(a.From, a.In, f.States, 0))
			}
		}
		more.Arcs = append(more.Arcs, arc(f.States, 3, f.States+1, 0))
		if h, x := Least(more); x != e || !equal(g, h) {
			t.Fatalf("%v: it is %v, %d and must be %v, %d", more, h, x, g, e)
		}
	}
}

// H1: a weight of the least one is too great, and no other one.
func TestGreatWeights(t *testing.T) {
	none, most := api.None, api.MaxWeight
	for _, c := range []struct {
		f    api.Fst
		want api.Errno
	}{
		{line(most, 0, 0), api.OK},
		{line(0, most, 0), api.OK},
		{line(0, 0, most), api.OK},
		{line(most-7, 4, 3), api.OK},
		{line(most-7, 4, 4), api.ErrMany},
		{line(0, most, 1), api.ErrMany},
		{line(most, most, most), api.ErrMany},
		// All words cost too much together, but what is told at each arc is not too much: it is so of no other one that tells it later.
		{api.Fst{States: 4, Final: []int{none, none, none, 0}, Arcs: []api.Arc{arc(0, 1, 1, 0), arc(0, 1, 2, most), arc(1, 2, 3, most), arc(2, 1, 3, most/5)}}, api.OK},
		{api.Fst{States: 4, Final: []int{none, none, none, 0}, Arcs: []api.Arc{arc(0, 1, 1, 0), arc(0, 1, 2, most), arc(1, 2, 3, most), arc(2, 1, 3, most)}}, api.OK},
		{api.Fst{States: 4, Final: []int{none, none, none, 1}, Arcs: []api.Arc{arc(0, 1, 1, 0), arc(0, 1, 2, most), arc(1, 2, 3, most), arc(2, 1, 3, most)}}, api.ErrMany},
		// The first word for nothing, the next one for most, the third one for twice that.
		{api.Fst{States: 4, Final: []int{none, 0, most, none}, Arcs: []api.Arc{arc(0, 1, 1, 0), arc(1, 1, 2, 0)}}, api.OK},
		{api.Fst{States: 4, Final: []int{none, 0, 0, most}, Arcs: []api.Arc{arc(0, 1, 1, 0), arc(1, 1, 2, most), arc(2, 1, 3, 0)}}, api.OK},
		{api.Fst{States: 4, Final: []int{none, 0, none, most}, Arcs: []api.Arc{arc(0, 1, 1, 0), arc(1, 1, 2, most), arc(2, 1, 3, 0)}}, api.ErrMany},
		// What is never the best, leads to no end or can't be come to has no say.
		{api.Fst{States: 2, Final: []int{none, 1}, Arcs: []api.Arc{arc(0, 1, 1, 0), arc(0, 2, 1, most-1)}}, api.OK},
		{api.Fst{States: 3, Final: []int{none, 0, most}, Arcs: []api.Arc{arc(0, 1, 1, 0), arc(0, 1, 2, most)}}, api.OK},
		{api.Fst{States: 4, Final: []int{0, none, none, most}, Arcs: []api.Arc{arc(0, 1, 1, most), arc(1, 1, 2, most)}}, api.OK},
		{api.Fst{States: 3, Final: []int{0, none, most}, Arcs: []api.Arc{arc(1, 1, 2, most)}}, api.OK},
	} {
		g, e := Least(c.f)
		if e != c.want || e != api.OK && !equal(g, api.Fst{}) || e == api.OK && !equal(g, byWords(costs(c.f))) {
			t.Errorf("%v: it is %v, %d and must be %d", c.f, g, e, c.want)
		}
	}
}

// H1: so by chance, too: what is made of the words tells whether a weight is too great.
func TestGreatWeightsOfMany(t *testing.T) {
	d := draw(4)
	refused := 0
	for range 3000 {
		f := d.acceptor(2+d.below(5), 2, 1+d.below(3), 2)
		for i := range f.Arcs {
			f.Arcs[i].Weight = api.MaxWeight / 4 * d.below(5)
		}
		for state, cost := range f.Final {
			if cost != api.None {
				f.Final[state] = api.MaxWeight / 4 * d.below(5)
			}
		}
		want := byWords(costs(f))
		g, e := Least(f)
		if greatest(want) <= api.MaxWeight && (e != api.OK || !equal(g, want)) {
			t.Fatalf("%v: it is %v, %d and must be %v", f, g, e, want)
		}
		if greatest(want) > api.MaxWeight && (e != api.ErrMany || !equal(g, api.Fst{})) {
			t.Fatalf("%v: it is %v, %d, and would be %v", f, g, e, want)
		}
		if e != api.OK {
			refused++
		}
	}
	if refused < 300 || refused > 2700 {
		t.Errorf("%d are refused: too few, or too many, to tell", refused)
	}
}

// P1: no call panics, whatever stands in its numbers; with an error there is nothing else.
func TestNothingPanics(t *testing.T) {
	d := draw(5)
	for range 20000 {
		f := d.odd()
		g, e := Least(f)
		is, h := Same(f, twice())
		if want := fst.Check(f); want != api.OK && e != want || e != h {
			t.Fatalf("%v: it is %d and %d, and Check says %d", f, e, h, want)
		}
		if e != api.OK && (is || !equal(g, api.Fst{})) || e == api.OK && fst.Check(g) != api.OK {
			t.Fatalf("%v: it is %v, %v, %d", f, g, is, e)
		}
	}
}

// spoil all that a transducer holds, the spare room too.
func spoil(f api.Fst) {
	for i := range f.Final[:cap(f.Final)] {
		f.Final[:cap(f.Final)][i] = 99
	}
	for i := range f.Arcs[:cap(f.Arcs)] {
		f.Arcs[:cap(f.Arcs)][i] = arc(99, 99, 99, 99)
	}
}

// P2: what is handed in is only read, the spare room too; an answer shares no memory with it, nor with another one.
func TestMemory(t *testing.T) {
	d := draw(6)
	for range 500 {
		f := d.acceptor(1+d.below(5), 2, 1+d.below(4), 5)
		final := append(slices.Clone(f.Final), 71, 72, 73, 74)
		arcs := append(slices.Clone(f.Arcs), arc(81, 82, 83, 84), arc(91, 92, 93, 94))
		f.Final, f.Arcs = final[:f.States], arcs[:len(f.Arcs)]
		wasFinal, wasArcs := slices.Clone(final), slices.Clone(arcs)
		first, second, third := made(t, f), made(t, f), made(t, f)
		if is, e := Same(f, f); !is || e != api.OK {
			t.Fatalf("%v and itself: it is %v, %d", f, is, e)
		}
		spoil(first)
		if !slices.Equal(final, wasFinal) || !slices.Equal(arcs, wasArcs) {
			t.Fatalf("%v was changed, or the answer shares memory with it", f)
		}
		spoil(f)
		if !reflect.DeepEqual(second, third) {
			t.Fatalf("a later change of %v is seen, or it is not the same each time", f)
		}
		spoil(second)
		if e := fst.Check(third); e != api.OK {
			t.Fatalf("two answers share memory: %v", third)
		}
	}
}

// P3: the same each time.
func TestTheSameEachTime(t *testing.T) {
	all := func() []any {
		d := draw(7)
		var l []any
		for range 200 {
			f, g := d.acceptor(1+d.below(8), 3, 1+d.below(5), 4), d.acceptor(2, 1, 1, 2)
			least, e := Least(f)
			is, h := Same(f, g)
			l = append(l, least, e, is, h)
		}
		return l
	}
	first := all()
	for range 3 {
		if !reflect.DeepEqual(first, all()) {
			t.Fatal("it is not the same each time")
		}
	}
}

// P2: a list that is empty may be nil or not.
func TestEmptyListsMayBeNil(t *testing.T) {
	f := api.Fst{States: 1, Final: []int{3}}
	g := api.Fst{States: 1, Final: []int{3}, Arcs: []api.Arc{}}
	if is, e := Same(f, g); !is || e != api.OK || !equal(made(t, f), made(t, g)) {
		t.Errorf("it is %v, %d; %v and %v", is, e, made(t, f), made(t, g))
	}
}
