package simple

import (
	"math"
	"testing"

	"fareway/api"
	"fareway/fst"
	"fareway/score"
)

// C1: In and Out change places, the arcs in their order.
func TestInvertByHand(t *testing.T) {
	f := api.Fst{States: 3, Start: 1, Final: []int{3, api.None, 0}, Arcs: []api.Arc{
		arc(0, 1, 2, 1, 2), arc(0, 2, 1, 0, 7), arc(0, 2, 1, 2, 0), arc(1, 0, 0, 0, 1), arc(1, 0, 9, 1, 5), arc(1, 8, 0, 2, 4), arc(2, 3, 3, 2, 6),
	}}
	want := api.Fst{States: 3, Start: 1, Final: []int{3, api.None, 0}, Arcs: []api.Arc{
		arc(0, 1, 2, 0, 7), arc(0, 1, 2, 2, 0), arc(0, 2, 1, 1, 2), arc(1, 0, 0, 0, 1), arc(1, 0, 8, 2, 4), arc(1, 9, 0, 1, 5), arc(2, 3, 3, 2, 6),
	}}
	if g, e := Invert(f); !same(g, want) || e != api.OK {
		t.Errorf("it is %v, %d and must be %v", g, e, want)
	}
}

// C1: both what stands at that side; of arcs that are the same then the least weight.
func TestProjectByHand(t *testing.T) {
	f := api.Fst{States: 2, Final: []int{api.None, 4}, Arcs: []api.Arc{
		arc(0, 0, 0, 1, 9), arc(0, 0, 1, 1, 8), arc(0, 1, 0, 1, 7), arc(0, 1, 1, 0, 6), arc(0, 1, 1, 1, 9), arc(0, 1, 2, 1, 3), arc(0, 2, 1, 1, 5), arc(1, 2, 1, 1, 4),
	}}
	in := []api.Arc{arc(0, 0, 0, 1, 8), arc(0, 1, 1, 0, 6), arc(0, 1, 1, 1, 3), arc(0, 2, 2, 1, 5), arc(1, 2, 2, 1, 4)}
	out := []api.Arc{arc(0, 0, 0, 1, 7), arc(0, 1, 1, 0, 6), arc(0, 1, 1, 1, 5), arc(0, 2, 2, 1, 3), arc(1, 1, 1, 1, 4)}
	for side, arcs := range map[int][]api.Arc{api.SideIn: in, api.SideOut: out} {
		want := api.Fst{States: 2, Final: []int{api.None, 4}, Arcs: arcs}
		if g, e := Project(f, side); !same(g, want) || e != api.OK {
			t.Errorf("side %d: it is %v, %d and must be %v", side, g, e, want)
		}
	}
}

// C1, P1: a side that is none; what Check says is told ahead of it.
func TestProjectToNoSide(t *testing.T) {
	bad := one()
	bad.Start = 2
	for _, side := range []int{math.MinInt, -2, -1, 0, 3, 4, math.MaxInt} {
		if g, e := Project(one(), side); !same(g, api.Fst{}) || e != api.ErrRange {
			t.Errorf("side %d: it is %v, %d", side, g, e)
		}
		if g, e := Project(bad, side); !same(g, api.Fst{}) || e != api.ErrNone {
			t.Errorf("side %d: with a wrong one it is %v, %d", side, g, e)
		}
	}
}

// C1, C3: turned twice it is as it was; turned once it costs the same for the words turned.
func TestInvertOfMany(t *testing.T) {
	d := draw(1)
	for range 2000 {
		f := d.fst(1+d.below(4), 2, 1+d.below(8))
		g, e := Invert(f)
		h, i := Invert(g)
		if e != api.OK || i != api.OK || fst.Check(g) != api.OK || !same(f, h) {
			t.Fatalf("%v: turned it is %v, %d, and twice %v, %d", f, g, e, h, i)
		}
		in, out := d.word(4, 2), d.word(4, 2)
		n, _ := score.Score(f, in, out)
		if m, _ := score.Score(g, out, in); m != n {
			t.Fatalf("%v %v %v: it costs %d, and turned %d", f, in, out, n, m)
		}
	}
}

// C1: each arc of one side stands for those that have that there, for what the best of them costs; nothing else changes.
func TestProjectOfMany(t *testing.T) {
	d := draw(2)
	for range 1000 {
		f := d.fst(1+d.below(4), 2, 1+d.below(5))
		for side, at := range map[int]func(api.Arc) int{
			api.SideIn:  func(a api.Arc) int { return a.In },
			api.SideOut: func(a api.Arc) int { return a.Out },
		} {
			least := map[api.Arc]int{}
			for _, a := range f.Arcs {
				key := arc(a.From, at(a), at(a), a.To, 0)
				if n, ok := least[key]; !ok || a.Weight < n {
					least[key] = a.Weight
				}
			}
			g, e := Project(f, side)
			if e != api.OK || fst.Check(g) != api.OK || len(g.Arcs) != len(least) {
				t.Fatalf("%v %d: it is %v, %d", f, side, g, e)
			}
			for _, a := range g.Arcs {
				if n, ok := least[arc(a.From, a.In, a.Out, a.To, 0)]; !ok || n != a.Weight {
					t.Fatalf("%v %d: it has %v", f, side, a)
				}
			}
			g.Arcs = f.Arcs
			if !same(f, g) {
				t.Fatalf("%v %d: more than arcs is changed: %v", f, side, g)
			}
		}
	}
}

// C1: as many states and arcs as may be.
func TestTurnTheGreatest(t *testing.T) {
	f := sized(api.MaxStates, api.MaxArcs)
	if e := fst.Check(f); e != api.OK {
		t.Fatalf("it is %d", e)
	}
	g, e := Invert(f)
	if h, _ := Invert(g); e != api.OK || len(g.Arcs) != api.MaxArcs || !same(f, h) {
		t.Errorf("turned: %d", e)
	}
	for _, side := range []int{api.SideIn, api.SideOut} {
		if g, e := Project(f, side); e != api.OK || fst.Check(g) != api.OK || len(g.Arcs) != api.MaxArcs/10 {
			t.Errorf("side %d: it has %d arcs, %d", side, len(g.Arcs), e)
		}
	}
}
