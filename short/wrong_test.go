package short

import (
	"reflect"
	"slices"
	"testing"

	"fareway/api"
	"fareway/fst"
)

// answers of all calls.
type answers struct {
	from, to, way []int
	best, told    int
	f             api.Fst
	e             [4]api.Errno
}

func ask(f api.Fst) answers {
	var a answers
	a.from, a.e[0] = From(f)
	a.to, a.e[1] = To(f)
	a.way, a.best, a.e[2] = Best(f)
	a.f, a.told, a.e[3] = Push(f)
	return a
}

// nothing: with what Check says there is nothing else.
func nothing(a answers, e api.Errno) bool {
	return a.e == [4]api.Errno{e, e, e, e} && len(a.from)+len(a.to)+len(a.way) == 0 && a.best == 0 && a.told == 0 && same(a.f, api.Fst{})
}

// F1, F2, P1: what Check says, and nothing with it.
func TestWrongOnes(t *testing.T) {
	for _, c := range []struct {
		f    api.Fst
		want api.Errno
	}{
		{api.Fst{}, api.ErrRange},
		{api.Fst{States: 201, Final: make([]int, 201)}, api.ErrRange},
		{api.Fst{States: 1, Start: 1, Final: []int{0}}, api.ErrNone},
		{api.Fst{States: 1, Start: -1, Final: []int{0}}, api.ErrNone},
		{api.Fst{States: 1}, api.ErrForm},
		{api.Fst{States: 1, Final: []int{-2}}, api.ErrRange},
		{api.Fst{States: 1, Final: []int{api.MaxWeight + 1}}, api.ErrRange},
		{api.Fst{States: 1, Final: []int{0}, Arcs: make([]api.Arc, 3001)}, api.ErrMany},
		{api.Fst{States: 1, Final: []int{0}, Arcs: make([]api.Arc, 2)}, api.ErrState},
		{api.Fst{States: 1, Final: []int{0}, Arcs: []api.Arc{arc(0, 0, 0, 1, 0)}}, api.ErrNone},
		{api.Fst{States: 1, Final: []int{0}, Arcs: []api.Arc{arc(0, 10, 0, 0, 0)}}, api.ErrRange},
		{api.Fst{States: 1, Final: []int{0}, Arcs: []api.Arc{arc(0, 0, 0, 0, -1)}}, api.ErrRange},
	} {
		if a := ask(c.f); !nothing(a, c.want) {
			t.Errorf("%v: it is %v and must be %d", c.f, a, c.want)
		}
	}
}

// P1: no call panics, whatever stands in its numbers.
func TestNothingPanics(t *testing.T) {
	d := draw(5)
	for range 20000 {
		f := d.odd()
		a := ask(f)
		if e := fst.Check(f); e != api.OK && !nothing(a, e) || e == api.OK && slices.Max(a.e[:3]) != api.OK {
			t.Fatalf("%v: it is %v, and Check says %d", f, a, e)
		}
	}
}

// spoil all that lists hold, the spare room too.
func spoil(a answers) {
	for _, l := range [][]int{a.from, a.to, a.way, a.f.Final} {
		for i := range l[:cap(l)] {
			l[:cap(l)][i] = 99
		}
	}
	for i := range a.f.Arcs[:cap(a.f.Arcs)] {
		a.f.Arcs[:cap(a.f.Arcs)][i] = arc(99, 99, 99, 99, 99)
	}
}

// P2: what is handed in is only read, the spare room too; answers share no memory with it, nor with each other.
func TestMemory(t *testing.T) {
	d := draw(6)
	for range 500 {
		f := d.fst(1+d.below(5), 1, 3+d.below(20))
		final := append(slices.Clone(f.Final), 71, 72, 73, 74)
		arcs := append(slices.Clone(f.Arcs), arc(81, 82, 83, 84, 85), arc(91, 92, 93, 94, 95))
		f.Final, f.Arcs = final[:f.States], arcs[:len(f.Arcs)]
		wasFinal, wasArcs := slices.Clone(final), slices.Clone(arcs)
		first, second, third := ask(f), ask(f), ask(f)
		spoil(first)
		if !slices.Equal(final, wasFinal) || !slices.Equal(arcs, wasArcs) {
			t.Fatalf("%v was changed, or answers share memory with it", f)
		}
		spoil(answers{f: f})
		if !reflect.DeepEqual(second, third) {
			t.Fatalf("a later change of %v is seen, or it is not the same each time", f)
		}
		spoil(answers{from: second.from})
		if !reflect.DeepEqual(second.to, third.to) || !reflect.DeepEqual(second.way, third.way) || !reflect.DeepEqual(second.f, third.f) {
			t.Fatalf("answers of %v share memory", f)
		}
	}
}

// P3: the same each time, which way is free or not.
func TestTheSameEachTime(t *testing.T) {
	all := func() []answers {
		d := draw(7)
		var l []answers
		for range 300 {
			l = append(l, ask(d.fst(1+d.below(6), 1, 3+d.below(20))))
		}
		return l
	}
	first := all()
	for range 3 {
		if !reflect.DeepEqual(first, all()) {
			t.Fatal("it is not the same each time")
		}
	}
}

// P2: a list that is empty may be nil or not.
func TestEmptyListsMayBeNil(t *testing.T) {
	for _, arcs := range [][]api.Arc{nil, {}} {
		f := api.Fst{States: 1, Final: []int{3}, Arcs: arcs}
		a := ask(f)
		if !slices.Equal(a.from, []int{0}) || !slices.Equal(a.to, []int{3}) || len(a.way) > 0 || a.best != 3 || a.told != 3 || !same(a.f, api.Fst{States: 1, Final: []int{0}}) {
			t.Errorf("%#v: it is %v", f, a)
		}
	}
}
