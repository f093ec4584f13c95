package determine

import (
	"reflect"
	"slices"
	"testing"

	"fareway/api"
	"fareway/fst"
	"fareway/order"
)

// answers of all calls.
type answers struct {
	is, round bool
	f         api.Fst
	e         [3]api.Errno
}

func ask(f api.Fst) answers {
	var a answers
	a.is, a.e[0] = Is(f)
	a.round, a.e[1] = Round(f)
	a.f, a.e[2] = Determine(f)
	return a
}

// G1, P1: what Check says, and nothing with it.
func TestWrongOnes(t *testing.T) {
	for _, c := range []struct {
		f    api.Fst
		want api.Errno
	}{
		{api.Fst{}, api.ErrRange},
		{sized(201, arc(0, 1, 0, 0)), api.ErrRange},
		{api.Fst{States: 1, Start: 1, Final: []int{0}}, api.ErrNone},
		{api.Fst{States: 1, Start: -1, Final: []int{0}}, api.ErrNone},
		{api.Fst{States: 1}, api.ErrForm},
		{api.Fst{States: 1, Final: []int{-2}}, api.ErrRange},
		{sized(1, make([]api.Arc, 3001)...), api.ErrMany},
		{sized(1, make([]api.Arc, 2)...), api.ErrState},
		{sized(2, arc(1, 1, 0, 0), arc(0, 1, 1, 0)), api.ErrState},
		{sized(1, arc(0, 0, 1, 0)), api.ErrNone},
		{sized(1, arc(0, 10, 0, 0)), api.ErrRange},
		{sized(2, arc(0, 0, 1, -1)), api.ErrRange},
	} {
		if a := ask(c.f); !reflect.DeepEqual(a, answers{e: [3]api.Errno{c.want, c.want, c.want}}) {
			t.Errorf("%v: it is %v and must be %d", c.f, a, c.want)
		}
	}
}

// full has so many levels, each with arcs by two letters to the next one; it ends at the last one, if that may be.
func full(levels, end int) api.Fst {
	f := api.Fst{States: levels + 1, Final: slices.Repeat([]int{api.None}, levels+1)}
	f.Final[levels] = end
	for level := range levels {
		f.Arcs = append(f.Arcs, arc(level, 1, level+1, 0), arc(level, 2, level+1, 0))
	}
	return f
}

// also has one more arc.
func also(f api.Fst, a api.Arc) api.Fst {
	f.Arcs = append(slices.Clone(f.Arcs), a)
	slices.SortFunc(f.Arcs, func(a, b api.Arc) int { return 10000*(a.From-b.From) + 1000*(a.In-b.In) + a.To - b.To })
	return f
}

// G1: errors in their order, and as many beginnings as may be, or one more.
func TestErrorsInTheirOrder(t *testing.T) {
	dead := also(chain(200), arc(0, 2, 199, 0))
	dead.Final[199] = api.None
	for _, c := range []struct {
		f    api.Fst
		want api.Errno
	}{
		{sized(2, api.Arc{In: 1, Out: 2, To: 1}), api.ErrState},
		{sized(2, arc(0, 0, 1, 0)), api.ErrState},
		{sized(2, arc(0, 1, 0, 0)), api.ErrState},
		// What can't be come to, or leads to no end, is told of, too.
		{sized(3, arc(1, 0, 2, 0)), api.ErrState},
		{sized(3, api.Arc{From: 1, In: 2, Out: 1, To: 2}), api.ErrState},
		{sized(3, arc(1, 1, 2, 0), arc(2, 1, 1, 0)), api.ErrState},
		{also(full(8, 0), arc(0, 0, 1, 0)), api.ErrState},
		{also(full(8, 0), arc(8, 1, 0, 0)), api.ErrState},
		// The empty word, each word, and each beginning count once: 2 to the power of 7, or 8, less 1.
		{full(6, 0), api.OK},
		{full(7, 0), api.ErrMany},
		{full(199, 0), api.ErrMany},
		{chain(200), api.OK},
		{also(chain(200), arc(0, 2, 199, 0)), api.ErrMany},
		{also(chain(200), arc(198, 2, 199, 0)), api.ErrMany},
		{also(chain(199), arc(0, 2, 198, 0)), api.OK},
		{also(chain(199), arc(0, 2, 197, 0)), api.ErrMany},
		// Two ways for a word are one beginning; what leads to no end is none.
		{also(chain(200), arc(0, 1, 199, 0)), api.OK},
		{dead, api.OK},
		{full(199, api.None), api.OK},
	} {
		g, e := Determine(c.f)
		if e != c.want || e != api.OK && !same(g, api.Fst{}) {
			t.Errorf("%v: it is %v, %d and must be %d", c.f, g, e, c.want)
		} else if e == api.OK {
			right(t, c.f, g, words(6, 2))
		}
	}
}

// G1, P1: behind each word it is otherwise dear to be on the one track and on the other one: so there are as many subsets as words; it ends all the same.
func TestAllSubsetsDiffer(t *testing.T) {
	for _, levels := range []int{5, 6, 7, 30, 99} {
		f := api.Fst{States: 2*levels + 1, Final: slices.Repeat([]int{api.None}, 2*levels+1)}
		f.Final[2*levels-1], f.Final[2*levels] = 0, 0
		for level := range levels {
			first, second := max(2*level-1, 0), 2*level
			f.Arcs = append(f.Arcs, arc(first, 1, 2*level+1, 0), arc(first, 2, 2*level+1, 1<<min(level, 29)))
			f.Arcs = append(f.Arcs, arc(second, 1, 2*level+2, 1<<min(level, 29)), arc(second, 2, 2*level+2, 0))
		}
		f.Arcs = order.Least(f.Arcs)
		g, e := Determine(f)
		if levels > 6 && (e != api.ErrMany || !same(g, api.Fst{})) {
			t.Fatalf("of %d levels it is %v, %d", levels, g, e)
		}
		if levels <= 6 {
			right(t, f, g, words(levels, 2))
		}
	}
}

// G1: ErrMany is told for a weight only if all of them together are more than may be.
func TestGreatWeights(t *testing.T) {
	most := api.MaxWeight
	line := func(first, second, end int) api.Fst {
		return api.Fst{States: 3, Final: []int{api.None, api.None, end}, Arcs: []api.Arc{arc(0, 1, 1, first), arc(1, 1, 2, second)}}
	}
	for _, f := range []api.Fst{
		line(most, 0, 0), line(0, most, 0), line(0, 0, most), line(most-7, 4, 3),
		// What leads to no end, or can't be come to, has no say.
		{States: 4, Final: []int{most, api.None, api.None, 0}, Arcs: []api.Arc{arc(0, 1, 1, most), arc(1, 1, 2, most)}},
		{States: 3, Start: 2, Final: []int{most, most, 4}, Arcs: []api.Arc{arc(0, 1, 1, most)}},
	} {
		right(t, f, made(t, f), words(3, 2))
	}
	d := draw(4)
	refused := 0
	for range 2000 {
		f := d.acceptor(2+d.below(4), 2, 1+d.below(3), 2)
		total, end := 0, slices.Max(f.Final)
		part := most / (1 + d.below(len(f.Arcs)+2))
		for i := range f.Arcs {
			f.Arcs[i].Weight = part * d.below(2)
			total += f.Arcs[i].Weight
		}
		g, e := Determine(f)
		if e == api.ErrMany && total+end > most && same(g, api.Fst{}) {
			refused++
			continue
		}
		if e != api.OK {
			t.Fatalf("%v: it is %v, %d", f, g, e)
		}
		right(t, f, g, words(4, 2))
	}
	if refused < 20 || refused > 1000 {
		t.Errorf("%d are refused: too few, or too many, to tell", refused)
	}
}

// P1: no call panics, whatever stands in its numbers; with an error there is nothing else.
func TestNothingPanics(t *testing.T) {
	d := draw(5)
	for range 20000 {
		f := d.odd()
		a, want := ask(f), fst.Check(f)
		if a.e[0] != want || a.e[1] != want || want != api.OK && a.e[2] != want || want != api.OK && (a.is || a.round) {
			t.Fatalf("%v: it is %v, and Check says %d", f, a, want)
		}
		if a.e[2] != api.OK && !same(a.f, api.Fst{}) || a.e[2] == api.OK && fst.Check(a.f) != api.OK {
			t.Fatalf("%v: Determine is %v, %d", f, a.f, a.e[2])
		}
	}
}

// spoil all that a transducer holds, the spare room too.
func spoil(f api.Fst) {
	for i := range f.Final[:cap(f.Final)] {
		f.Final[:cap(f.Final)][i] = 99
	}
	for i := range f.Arcs[:cap(f.Arcs)] {
		f.Arcs[:cap(f.Arcs)][i] = arc(99, 99, 99, 99)
	}
}

// P2: what is handed in is only read, the spare room too; an answer shares no memory with it, nor with another one.
func TestMemory(t *testing.T) {
	d := draw(6)
	for range 500 {
		f := d.acceptor(1+d.below(5), 2, 1+d.below(4), 5)
		final := append(slices.Clone(f.Final), 71, 72, 73, 74)
		arcs := append(slices.Clone(f.Arcs), arc(81, 82, 83, 84), arc(91, 92, 93, 94))
		f.Final, f.Arcs = final[:f.States], arcs[:len(f.Arcs)]
		wasFinal, wasArcs := slices.Clone(final), slices.Clone(arcs)
		first, second, third := ask(f), ask(f), ask(f)
		spoil(first.f)
		if !slices.Equal(final, wasFinal) || !slices.Equal(arcs, wasArcs) {
			t.Fatalf("%v was changed, or the answer shares memory with it", f)
		}
		spoil(f)
		if !reflect.DeepEqual(second, third) {
			t.Fatalf("a later change of %v is seen, or it is not the same each time", f)
		}
		spoil(second.f)
		if e := fst.Check(third.f); e != api.OK {
			t.Fatalf("two answers share memory: %v", third)
		}
	}
}

// P3: the same each time, which one is free or not.
func TestTheSameEachTime(t *testing.T) {
	all := func() []answers {
		d := draw(7)
		var l []answers
		for range 200 {
			l = append(l, ask(d.acceptor(1+d.below(8), 3, 1+d.below(5), 4)))
		}
		return l
	}
	first := all()
	for range 3 {
		if !reflect.DeepEqual(first, all()) {
			t.Fatal("it is not the same each time")
		}
	}
}

// P2: a list that is empty may be nil or not.
func TestEmptyListsMayBeNil(t *testing.T) {
	for _, arcs := range [][]api.Arc{nil, {}} {
		f := api.Fst{States: 1, Final: []int{3}, Arcs: arcs}
		a := ask(f)
		if !a.is || a.round || a.e != [3]api.Errno{} {
			t.Errorf("%#v: it is %v", f, a)
		}
		right(t, f, a.f, words(1, 1))
	}
}
