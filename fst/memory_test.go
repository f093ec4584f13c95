package fst

import (
	"reflect"
	"slices"
	"testing"

	"fareway/api"
)

// roomy has the same transducer, with spare room behind its lists, and hands out the whole of that room.
func roomy(f api.Fst) (api.Fst, []int, []api.Arc) {
	final := append(slices.Clone(f.Final), 71, 72, 73, 74)
	arcs := append(slices.Clone(f.Arcs), arc(81, 82, 83, 84, 85), arc(91, 92, 93, 94, 95))
	f.Final, f.Arcs = final[:len(f.Final)], arcs[:len(f.Arcs)]
	return f, final, arcs
}

// P2: what is handed in is only read, the spare room too.
func TestHandedInIsOnlyRead(t *testing.T) {
	d := draw(4)
	for range 200 {
		f, final, arcs := roomy(d.fst(1+d.below(5), 1, 4))
		wasFinal, wasArcs := slices.Clone(final), slices.Clone(arcs)
		Check(f)
		Print(f)
		Trim(f)
		if !slices.Equal(final, wasFinal) || !slices.Equal(arcs, wasArcs) {
			t.Fatalf("it was %v %v and is %v %v", wasFinal, wasArcs, final, arcs)
		}
	}
}

// P2: an answer shares no memory with what was handed in, nor with another answer.
func TestAnswersAreNewMemory(t *testing.T) {
	f := good()
	g, _ := Trim(f)
	h, _ := Trim(f)
	spoil(f)
	if !same(g, good()) {
		t.Errorf("a later change is seen: %v", g)
	}
	spoil(g)
	if !same(h, good()) {
		t.Errorf("two answers share memory: %v", h)
	}
	text, _ := Print(good())
	a, _, _ := Parse(text)
	b, _, _ := Parse(text)
	spoil(a)
	if !same(b, good()) {
		t.Errorf("two that are parsed share memory: %v", b)
	}
	none := api.Fst{States: 1, Final: []int{api.None}}
	a, _ = Trim(none)
	spoil(a)
	if b, _ := Trim(none); !same(b, none) {
		t.Errorf("two of one state share memory: %v", b)
	}
}

// spoil all that a transducer holds, the spare room too.
func spoil(f api.Fst) {
	for i := range f.Final[:cap(f.Final)] {
		f.Final[:cap(f.Final)][i] = 99
	}
	for i := range f.Arcs[:cap(f.Arcs)] {
		f.Arcs[:cap(f.Arcs)][i] = arc(99, 99, 99, 99, 99)
	}
}

// P3: the same each time, whatever was asked between.
func TestTheSameEachTime(t *testing.T) {
	ask := func() []any {
		d := draw(5)
		var l []any
		for range 100 {
			f := d.fst(1+d.below(6), 1, 3+d.below(20))
			s, e := Print(f)
			g, h := Trim(f)
			p, n, i := Parse(s)
			l = append(l, s, e, g, h, p, n, i)
		}
		return l
	}
	first := ask()
	for range 3 {
		if !reflect.DeepEqual(first, ask()) {
			t.Fatal("it is not the same each time")
		}
	}
}

// P2: a list that is empty may be nil or not.
func TestEmptyListsMayBeNil(t *testing.T) {
	for _, arcs := range [][]api.Arc{nil, {}} {
		f := api.Fst{States: 1, Final: []int{3}, Arcs: arcs}
		s, e := Print(f)
		g, h := Trim(f)
		if Check(f) != api.OK || s != "states 1 start 0\nfinal 0 3\n" || e != api.OK || h != api.OK || !same(f, g) {
			t.Errorf("%#v: %q %d %v %d", f, s, e, g, h)
		}
	}
}
