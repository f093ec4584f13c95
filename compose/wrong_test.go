package compose

import (
	"reflect"
	"slices"
	"testing"

	"fareway/api"
	"fareway/fst"
)

// D1, P1: errors in their order, and nothing with them.
func TestErrorsInTheirOrder(t *testing.T) {
	none := one()
	none.Arcs[0].To = 2
	form := one()
	form.Final = form.Final[:1]
	wrongAndLarge := sized(13, 0)
	wrongAndLarge.Final[12] = -2
	for _, c := range []struct {
		f, g api.Fst
		want api.Errno
	}{
		{one(), one(), api.OK},
		{none, one(), api.ErrNone},
		{one(), none, api.ErrNone},
		{none, form, api.ErrNone},
		{form, none, api.ErrForm},
		{api.Fst{}, one(), api.ErrRange},
		{one(), api.Fst{}, api.ErrRange},
		{sized(13, 0), form, api.ErrForm},
		{form, sized(13, 0), api.ErrForm},
		{wrongAndLarge, one(), api.ErrRange},
		{one(), wrongAndLarge, api.ErrRange},
		{sized(12, 100), one(), api.OK},
		{one(), sized(12, 100), api.OK},
		{sized(13, 0), one(), api.ErrMany},
		{one(), sized(13, 0), api.ErrMany},
		{sized(2, 101), one(), api.ErrMany},
		{one(), sized(2, 101), api.ErrMany},
		{sized(200, 3000), sized(200, 3000), api.ErrMany},
	} {
		h, e := Compose(c.f, c.g)
		if e != c.want || e != api.OK && !same(h, api.Fst{}) || e == api.OK && fst.Check(h) != api.OK {
			t.Errorf("%v, %v: it is %v, %d and must be %d", c.f, c.g, h, e, c.want)
		}
	}
}

// D1: two weights together, of arcs and of ends, at the edge and behind it.
func TestWeightsTogether(t *testing.T) {
	weighing := func(arcs, ends int) api.Fst {
		return api.Fst{States: 2, Final: []int{api.None, ends}, Arcs: []api.Arc{arc(0, 1, 1, 1, arcs)}}
	}
	word := []int{1}
	for _, c := range []struct {
		f, g api.Fst
		want api.Errno
	}{
		{weighing(api.MaxWeight, api.MaxWeight), weighing(0, 0), api.OK},
		{weighing(0, api.MaxWeight), weighing(api.MaxWeight, 0), api.OK},
		{weighing(api.MaxWeight-7, 3), weighing(7, api.MaxWeight-3), api.OK},
		{weighing(api.MaxWeight, 0), weighing(1, 0), api.ErrMany},
		{weighing(1, 0), weighing(api.MaxWeight, 0), api.ErrMany},
		{weighing(0, api.MaxWeight), weighing(0, 1), api.ErrMany},
		{weighing(0, 1), weighing(0, api.MaxWeight), api.ErrMany},
		{weighing(api.MaxWeight, api.MaxWeight), weighing(api.MaxWeight, api.MaxWeight), api.ErrMany},
	} {
		h, e := Compose(c.f, c.g)
		if e != c.want || e != api.OK && !same(h, api.Fst{}) {
			t.Errorf("%v, %v: it is %v, %d and must be %d", c.f, c.g, h, e, c.want)
		} else if want := cost(t, c.f, word, word) + cost(t, c.g, word, word); e == api.OK && cost(t, h, word, word) != want {
			t.Errorf("%v, %v: it must cost %d", c.f, c.g, want)
		}
	}
}

// D1: arcs that go alone cost what they cost, however dear others are, as no two of their weights come together.
func TestDearArcsAlone(t *testing.T) {
	f := api.Fst{States: 2, Final: []int{api.None, 0}, Arcs: []api.Arc{arc(0, 1, 0, 1, api.MaxWeight)}}
	g := api.Fst{States: 2, Final: []int{api.None, 0}, Arcs: []api.Arc{arc(0, 0, 2, 1, api.MaxWeight)}}
	if n := cost(t, composed(t, f, g), []int{1}, []int{2}); n != 2*api.MaxWeight {
		t.Errorf("it costs %d", n)
	}
}

// D1: as many arcs as may be, and one more.
func TestManyArcs(t *testing.T) {
	for _, c := range []struct {
		f, g api.Fst
		want api.Errno
	}{
		{grid(12, 99, 1), grid(6, 30, 30), api.OK},
		{grid(12, 99, 1), grid(6, 30, 31), api.ErrMany},
		{grid(6, 30, 31), grid(12, 99, 1), api.ErrMany},
		{grid(12, 100), grid(12, 100), api.ErrMany},
	} {
		h, e := Compose(c.f, c.g)
		if e != c.want || e != api.OK && !same(h, api.Fst{}) || e == api.OK && (fst.Check(h) != api.OK || len(h.Arcs) != api.MaxArcs) {
			t.Errorf("%d and %d arcs: it has %d, %d and must be %d", len(c.f.Arcs), len(c.g.Arcs), len(h.Arcs), e, c.want)
		}
	}
}

// D1: ErrMany is told only if there is much, and what is no error is right, up to as much as one may have.
func TestTheGreatest(t *testing.T) {
	d := draw(3)
	refused := 0
	for range 200 {
		f, g := d.fst(1+d.below(12), 2, 4+d.below(30)), d.fst(1+d.below(12), 2, 4+d.below(30))
		f.Arcs, g.Arcs = f.Arcs[:min(len(f.Arcs), 100)], g.Arcs[:min(len(g.Arcs), 100)]
		few := 3*f.States*g.States <= api.MaxStates &&
			3*(len(f.Arcs)*len(g.Arcs)+len(f.Arcs)*g.States+len(g.Arcs)*f.States) <= api.MaxArcs
		h, e := Compose(f, g)
		if e == api.ErrMany && !few && same(h, api.Fst{}) {
			refused++
			continue
		}
		if e != api.OK || fst.Check(h) != api.OK {
			t.Fatalf("%v, %v: it is %v, %d", f, g, h, e)
		}
		in, out := d.word(3, 2), d.word(3, 2)
		n := cost(t, h, in, out)
		for _, w := range words(2) {
			if m := through(t, f, g, in, w, out); m != api.None && (n == api.None || m < n) {
				t.Fatalf("%v, %v: %v %v: it costs %d, and by %v only %d", f, g, in, out, n, w, m)
			}
		}
	}
	if refused > 150 {
		t.Errorf("%d are refused: too few stay to tell", refused)
	}
}

// P1: no call panics, whatever stands in its numbers; with an error there is nothing else.
func TestNothingPanics(t *testing.T) {
	d := draw(4)
	for range 20000 {
		f, g := d.odd(), d.odd()
		want := fst.Check(f)
		if want == api.OK {
			want = fst.Check(g)
		}
		if h, e := Compose(f, g); e != want || want != api.OK && !same(h, api.Fst{}) {
			t.Fatalf("%v, %v: it is %v, %d and must be %d", f, g, h, e, want)
		}
	}
}

// roomy has the same transducer, with spare room behind its lists, and hands out the whole of that room.
func roomy(f api.Fst) (api.Fst, []int, []api.Arc) {
	final := append(slices.Clone(f.Final), 71, 72, 73, 74, 75, 76)
	arcs := append(slices.Clone(f.Arcs), arc(81, 82, 83, 84, 85), arc(91, 92, 93, 94, 95), arc(96, 97, 98, 99, 90))
	f.Final, f.Arcs = final[:len(f.Final)], arcs[:len(f.Arcs)]
	return f, final, arcs
}

// spoil all that a transducer holds, the spare room too.
func spoil(f api.Fst) {
	for i := range f.Final[:cap(f.Final)] {
		f.Final[:cap(f.Final)][i] = 99
	}
	for i := range f.Arcs[:cap(f.Arcs)] {
		f.Arcs[:cap(f.Arcs)][i] = arc(99, 99, 99, 99, 99)
	}
}

// P2: what is handed in is only read, the spare room too; an answer shares no memory with it, nor with another one.
func TestMemory(t *testing.T) {
	d := draw(5)
	for range 300 {
		f, fFinal, fArcs := roomy(d.fst(1+d.below(4), 1, 3))
		g, gFinal, gArcs := roomy(d.fst(1+d.below(4), 1, 3))
		was := []any{slices.Clone(fFinal), slices.Clone(fArcs), slices.Clone(gFinal), slices.Clone(gArcs)}
		first, second, third := composed(t, f, g), composed(t, f, g), composed(t, f, g)
		if !reflect.DeepEqual(was, []any{fFinal, fArcs, gFinal, gArcs}) {
			t.Fatalf("%v, %v were changed", f, g)
		}
		spoil(first)
		if !reflect.DeepEqual(was, []any{fFinal, fArcs, gFinal, gArcs}) {
			t.Fatalf("the answer shares memory with %v, %v", f, g)
		}
		spoil(f)
		spoil(g)
		if !reflect.DeepEqual(second, third) {
			t.Fatal("a later change is seen")
		}
		spoil(second)
		if e := fst.Check(third); e != api.OK {
			t.Fatalf("two answers share memory: %v", third)
		}
	}
}

// P3: the same each time, which one is free or not.
func TestTheSameEachTime(t *testing.T) {
	ask := func() []any {
		d := draw(6)
		var l []any
		for range 100 {
			h, e := Compose(d.fst(1+d.below(5), 2, 2+d.below(9)), d.fst(1+d.below(5), 2, 2+d.below(9)))
			l = append(l, h, e)
		}
		return l
	}
	first := ask()
	for range 3 {
		if !reflect.DeepEqual(first, ask()) {
			t.Fatal("it is not the same each time")
		}
	}
}

// P2: a list that is empty may be nil or not.
func TestEmptyListsMayBeNil(t *testing.T) {
	for _, arcs := range [][]api.Arc{nil, {}} {
		f := api.Fst{States: 1, Final: []int{3}, Arcs: arcs}
		if n := cost(t, composed(t, f, f), nil, nil); n != 6 {
			t.Errorf("%#v: it costs %d", f, n)
		}
	}
}
