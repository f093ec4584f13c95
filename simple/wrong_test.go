package simple

import (
	"reflect"
	"slices"
	"testing"

	"fareway/api"
	"fareway/fst"
)

// answer of a call.
type answer struct {
	f api.Fst
	e api.Errno
}

// each call, by its name, of one or of two.
func each(f, g api.Fst) map[string]answer {
	l := map[string]answer{}
	put := func(name string, f api.Fst, e api.Errno) { l[name] = answer{f, e} }
	h, e := Invert(f)
	put("invert", h, e)
	h, e = Project(f, api.SideIn)
	put("in", h, e)
	h, e = Project(f, api.SideOut)
	put("out", h, e)
	h, e = Again(f)
	put("again", h, e)
	h, e = Either(f, g)
	put("either", h, e)
	h, e = Behind(f, g)
	put("behind", h, e)
	return l
}

// A1, P1: what Check says, of f, then of g, ahead of all; and nothing with it.
func TestWrongOnes(t *testing.T) {
	right := one()
	none := one()
	none.Arcs[0].To = 2
	form := one()
	form.Final = form.Final[:1]
	large, wide := sized(api.MaxStates, 0), sized(50, 3000)
	for _, c := range []struct {
		f, g       api.Fst
		ofOne, two api.Errno
	}{
		{right, none, api.OK, api.ErrNone},
		{none, right, api.ErrNone, api.ErrNone},
		{none, form, api.ErrNone, api.ErrNone},
		{form, none, api.ErrForm, api.ErrForm},
		{form, large, api.ErrForm, api.ErrForm},
		{right, api.Fst{}, api.OK, api.ErrRange},
		{api.Fst{}, form, api.ErrRange, api.ErrRange},
	} {
		for name, a := range each(c.f, c.g) {
			want := c.ofOne
			if name == "either" || name == "behind" {
				want = c.two
			}
			if a.e != want || a.e != api.OK && !same(a.f, api.Fst{}) {
				t.Errorf("%s of %v, %v: it is %v, %d and must be %d", name, c.f, c.g, a.f, a.e, want)
			}
		}
	}
	for _, f := range []api.Fst{large, wide} {
		for name, a := range each(f, form) {
			if (name == "either" || name == "behind") && a.e != api.ErrForm {
				t.Errorf("%s of one that is too large, and a wrong one: it is %d", name, a.e)
			}
		}
	}
}

// P1: no call panics, whatever stands in its numbers; with an error there is nothing else, without one it passes Check.
func TestNothingPanics(t *testing.T) {
	d := draw(4)
	for range 10000 {
		f, g := d.odd(), d.odd()
		for name, a := range each(f, g) {
			want := fst.Check(f)
			if want == api.OK && (name == "either" || name == "behind") {
				want = fst.Check(g)
			}
			if a.e != want || want != api.OK && !same(a.f, api.Fst{}) || want == api.OK && fst.Check(a.f) != api.OK {
				t.Fatalf("%s of %v, %v: it is %v, %d and must be %d", name, f, g, a.f, a.e, want)
			}
		}
	}
}

// roomy has the same transducer, with spare room behind its lists, and hands out the whole of that room.
func roomy(f api.Fst) (api.Fst, []int, []api.Arc) {
	final := append(slices.Clone(f.Final), 71, 72, 73, 74, 75, 76)
	arcs := append(slices.Clone(f.Arcs), arc(81, 82, 83, 84, 85), arc(91, 92, 93, 94, 95), arc(96, 97, 98, 99, 90))
	f.Final, f.Arcs = final[:len(f.Final)], arcs[:len(f.Arcs)]
	return f, final, arcs
}

// P2: what is handed in is only read, the spare room too; answers share no memory with it, nor with each other.
func TestMemory(t *testing.T) {
	d := draw(5)
	for range 200 {
		f, fFinal, fArcs := roomy(d.fst(1+d.below(4), 1, 3))
		g, gFinal, gArcs := roomy(d.fst(1+d.below(4), 1, 3))
		was := []any{slices.Clone(fFinal), slices.Clone(fArcs), slices.Clone(gFinal), slices.Clone(gArcs)}
		first, second, twice := each(f, g), each(f, g), each(f, f)
		if !reflect.DeepEqual(was, []any{fFinal, fArcs, gFinal, gArcs}) {
			t.Fatalf("%v, %v were changed", f, g)
		}
		for _, a := range first {
			spoil(a.f)
		}
		for _, a := range twice {
			spoil(a.f)
		}
		if !reflect.DeepEqual(was, []any{fFinal, fArcs, gFinal, gArcs}) {
			t.Fatalf("answers share memory with %v, %v", f, g)
		}
		if !reflect.DeepEqual(second, each(f, g)) {
			t.Fatalf("two answers of %v, %v share memory", f, g)
		}
		again := each(f, g)
		spoil(f)
		spoil(g)
		if !reflect.DeepEqual(second, again) {
			t.Fatal("a later change is seen")
		}
	}
}

// spoil all that a transducer holds, the spare room too.
func spoil(f api.Fst) {
	for i := range f.Final[:cap(f.Final)] {
		f.Final[:cap(f.Final)][i] = 99
	}
	for i := range f.Arcs[:cap(f.Arcs)] {
		f.Arcs[:cap(f.Arcs)][i] = arc(99, 99, 99, 99, 99)
	}
}

// P3: the same each time, which one is free or not.
func TestTheSameEachTime(t *testing.T) {
	ask := func() []any {
		d := draw(6)
		var l []any
		for range 100 {
			l = append(l, each(d.fst(1+d.below(5), 2, 2+d.below(9)), d.fst(1+d.below(5), 2, 2+d.below(9))))
		}
		return l
	}
	first := ask()
	for range 3 {
		if !reflect.DeepEqual(first, ask()) {
			t.Fatal("it is not the same each time")
		}
	}
}

// P2: a list that is empty may be nil or not.
func TestEmptyListsMayBeNil(t *testing.T) {
	for _, arcs := range [][]api.Arc{nil, {}} {
		f := api.Fst{States: 1, Final: []int{3}, Arcs: arcs}
		for name, a := range each(f, f) {
			if a.e != api.OK || fst.Check(a.f) != api.OK {
				t.Errorf("%s of %#v: it is %v, %d", name, f, a.f, a.e)
			}
		}
	}
}
