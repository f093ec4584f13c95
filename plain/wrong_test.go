package plain

import (
	"reflect"
	"slices"
	"testing"

	"fareway/api"
	"fareway/fst"
)

// E1, P1: errors in their order, and nothing with them.
func TestErrorsInTheirOrder(t *testing.T) {
	changing := []api.Arc{{In: 1, Out: 2}}
	sized := func(states int, arcs []api.Arc) api.Fst {
		return api.Fst{States: states, Final: make([]int, states), Arcs: arcs}
	}
	wrong := sized(31, changing)
	wrong.Final[30] = -2
	for _, c := range []struct {
		f               api.Fst
		acceptor, plain api.Errno
	}{
		{sized(30, nil), api.OK, api.OK},
		{sized(31, nil), api.OK, api.ErrMany},
		{sized(200, nil), api.OK, api.ErrMany},
		{sized(1, changing), api.OK, api.ErrState},
		{sized(31, changing), api.OK, api.ErrState},
		{sized(1, []api.Arc{{Out: 1}}), api.OK, api.ErrState},
		{sized(1, []api.Arc{{In: 1}}), api.OK, api.ErrState},
		{wrong, api.ErrRange, api.ErrRange},
		{sized(201, changing), api.ErrRange, api.ErrRange},
		{api.Fst{}, api.ErrRange, api.ErrRange},
		{api.Fst{States: 1, Start: 1, Final: []int{0}}, api.ErrNone, api.ErrNone},
		{api.Fst{States: 1}, api.ErrForm, api.ErrForm},
		{sized(1, make([]api.Arc, 3001)), api.ErrMany, api.ErrMany},
		{sized(1, make([]api.Arc, 2)), api.ErrState, api.ErrState},
		{sized(1, []api.Arc{{To: 1}}), api.ErrNone, api.ErrNone},
		{sized(1, []api.Arc{{In: 10, Out: 10}}), api.ErrRange, api.ErrRange},
	} {
		if is, e := Acceptor(c.f); e != c.acceptor || e != api.OK && is {
			t.Errorf("%v: Acceptor is %v, %d and must be %d", c.f, is, e, c.acceptor)
		}
		if g, e := Plain(c.f); e != c.plain || e != api.OK && !same(g, api.Fst{}) {
			t.Errorf("%v: Plain is %v, %d and must be %d", c.f, g, e, c.plain)
		}
	}
}

// P1: no call panics, whatever stands in its numbers; with an error there is nothing else.
func TestNothingPanics(t *testing.T) {
	d := draw(6)
	for range 20000 {
		f := d.odd()
		want := fst.Check(f)
		if is, e := Acceptor(f); e != want || e != api.OK && is {
			t.Fatalf("%v: Acceptor is %v, %d and must be %d", f, is, e, want)
		}
		g, e := Plain(f)
		if want != api.OK && e != want || e != api.OK && !same(g, api.Fst{}) || e == api.OK && fst.Check(g) != api.OK {
			t.Fatalf("%v: Plain is %v, %d, and Check says %d", f, g, e, want)
		}
	}
}

// spoil all that a transducer holds, the spare room too.
func spoil(f api.Fst) {
	for i := range f.Final[:cap(f.Final)] {
		f.Final[:cap(f.Final)][i] = 99
	}
	for i := range f.Arcs[:cap(f.Arcs)] {
		f.Arcs[:cap(f.Arcs)][i] = arc(99, 99, 99, 99)
	}
}

// P2: what is handed in is only read, the spare room too; an answer shares no memory with it, nor with another one.
func TestMemory(t *testing.T) {
	d := draw(7)
	for range 500 {
		f := d.acceptor(1+d.below(5), 2, 3+d.below(12), 2+d.below(20), 5)
		final := append(slices.Clone(f.Final), 71, 72, 73, 74)
		arcs := append(slices.Clone(f.Arcs), arc(81, 82, 83, 84), arc(91, 92, 93, 94))
		f.Final, f.Arcs = final[:f.States], arcs[:len(f.Arcs)]
		wasFinal, wasArcs := slices.Clone(final), slices.Clone(arcs)
		first, second, third := made(t, f), made(t, f), made(t, f)
		Acceptor(f)
		spoil(first)
		if !slices.Equal(final, wasFinal) || !slices.Equal(arcs, wasArcs) {
			t.Fatalf("%v was changed, or the answer shares memory with it", f)
		}
		spoil(f)
		if !reflect.DeepEqual(second, third) {
			t.Fatalf("a later change of %v is seen, or it is not the same each time", f)
		}
		spoil(second)
		if e := fst.Check(third); e != api.OK {
			t.Fatalf("two answers share memory: %v", third)
		}
	}
}

// P3: the same each time, which one is free or not.
func TestTheSameEachTime(t *testing.T) {
	ask := func() []any {
		d := draw(8)
		var l []any
		for range 200 {
			g, e := Plain(d.acceptor(1+d.below(6), 2, 3+d.below(12), 2+d.below(10), 3))
			l = append(l, g, e)
		}
		return l
	}
	first := ask()
	for range 3 {
		if !reflect.DeepEqual(first, ask()) {
			t.Fatal("it is not the same each time")
		}
	}
}

// P2: a list that is empty may be nil or not.
func TestEmptyListsMayBeNil(t *testing.T) {
	for _, arcs := range [][]api.Arc{nil, {}} {
		f := api.Fst{States: 1, Final: []int{3}, Arcs: arcs}
		if is, e := Acceptor(f); !is || e != api.OK {
			t.Errorf("%#v: it is %v, %d", f, is, e)
		}
		right(t, f, made(t, f), words(1, 1))
	}
}
