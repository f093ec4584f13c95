package score

import (
	"math"
	"reflect"
	"slices"
	"testing"

	"fareway/api"
)

// B1, B2, P1: errors in their order, and nothing with them.
func TestErrorsInTheirOrder(t *testing.T) {
	bad := one()
	bad.Start = 2
	many, wide := again(0, 41), []int{10}
	for _, c := range []struct {
		f       api.Fst
		in, out []int
		want    api.Errno
	}{
		{bad, nil, nil, api.ErrNone},
		{bad, many, wide, api.ErrNone},
		{one(), many, nil, api.ErrMany},
		{one(), nil, many, api.ErrMany},
		{one(), wide, nil, api.ErrRange},
		{one(), nil, wide, api.ErrRange},
		{one(), many, wide, api.ErrMany},
		{one(), wide, many, api.ErrRange},
		{api.Fst{}, nil, nil, api.ErrRange},
		{api.Fst{States: 1}, nil, nil, api.ErrForm},
		{api.Fst{States: 1, Final: []int{-2}}, nil, nil, api.ErrRange},
		{api.Fst{States: 1, Final: []int{0}, Arcs: make([]api.Arc, 3001)}, nil, nil, api.ErrMany},
		{api.Fst{States: 1, Final: []int{0}, Arcs: make([]api.Arc, 2)}, nil, nil, api.ErrState},
		{api.Fst{States: 1, Final: []int{0}, Arcs: []api.Arc{arc(0, 0, 0, 1, 0)}}, nil, nil, api.ErrNone},
	} {
		if n, e := Score(c.f, c.in, c.out); n != 0 || e != c.want {
			t.Errorf("%v %v %v: it is %d, %d and must be 0, %d", c.f, c.in, c.out, n, e, c.want)
		}
		if l, n, e := Walk(c.f, c.in, c.out); len(l) > 0 || n != 0 || e != c.want {
			t.Errorf("%v %v %v: it is %v, %d, %d and must be nothing, 0, %d", c.f, c.in, c.out, l, n, e, c.want)
		}
	}
}

// P1: no call panics, whatever stands in its numbers.
func TestNothingPanics(t *testing.T) {
	odd := []int{math.MinInt, -2, -1, 0, 1, 2, 9, 10, 200, 201, api.MaxWeight + 1, math.MaxInt}
	d := draw(2)
	pick := func() int { return odd[d.below(len(odd))] }
	for range 20000 {
		f := one()
		for range 1 + d.below(2) {
			a := &f.Arcs[0]
			*[]*int{&f.States, &f.Start, &f.Final[0], &f.Final[1], &a.From, &a.In, &a.Out, &a.To, &a.Weight}[d.below(9)] = pick()
		}
		in, out := []int{pick()}, []int{1, pick()}
		Word(in)
		n, e := Score(f, in[:d.below(2)], out[:d.below(3)])
		if e != api.OK && n != 0 {
			t.Fatalf("%v: an error, and %d", f, n)
		}
		Walk(f, in, out)
	}
}

// P2: what is handed in is only read, the spare room too; answers are new memory.
func TestMemory(t *testing.T) {
	d := draw(3)
	for range 300 {
		f := d.fst(1+d.below(4), 1, 3)
		final, arcs := append(slices.Clone(f.Final), 71, 72), append(slices.Clone(f.Arcs), arc(91, 92, 93, 94, 95))
		f.Final, f.Arcs = final[:f.States], arcs[:len(f.Arcs)]
		words := again(1, 8)
		wasFinal, wasArcs := slices.Clone(final), slices.Clone(arcs)
		in, out := words[:d.below(4)], words[4:4+d.below(4)]
		Word(in)
		Score(f, in, out)
		a, _, _ := Walk(f, in, out)
		b, _, _ := Walk(f, in, out)
		if !slices.Equal(final, wasFinal) || !slices.Equal(arcs, wasArcs) || !slices.Equal(words, again(1, 8)) {
			t.Fatalf("%v was changed", f)
		}
		if !slices.Equal(a, b) {
			t.Fatalf("%v: it is %v, then %v", f, a, b)
		}
		was := slices.Clone(b)
		for i := range a[:cap(a)] {
			a[:cap(a)][i] = -9
		}
		if !slices.Equal(b, was) {
			t.Fatalf("%v: two answers share memory", f)
		}
	}
}

// P3: the same each time, which way is free or not.
func TestTheSameEachTime(t *testing.T) {
	ask := func() []any {
		d := draw(4)
		var l []any
		for range 300 {
			f := d.fst(1+d.below(5), 1, 2)
			way, n, e := Walk(f, d.word(5, 1), d.word(5, 1))
			l = append(l, way, n, e)
		}
		return l
	}
	first := ask()
	for range 5 {
		if !reflect.DeepEqual(first, ask()) {
			t.Fatal("it is not the same each time")
		}
	}
}
