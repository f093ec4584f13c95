package fst

import (
	"testing"

	"fareway/api"
)

// A3: ordinary ones, and the edges.
func TestTrim(t *testing.T) {
	none := api.Fst{States: 1, Final: []int{api.None}}
	for name, c := range map[string]struct{ f, want api.Fst }{
		"all stay": {good(), good()},
		"one that leads nowhere, one that is not come to": {
			api.Fst{States: 5, Final: []int{api.None, 1, 1, api.None, api.None}, Arcs: []api.Arc{arc(0, 1, 1, 1, 1), arc(0, 1, 1, 2, 1), arc(0, 3, 3, 4, 1), arc(1, 2, 2, 2, 3), arc(3, 1, 1, 1, 0)}},
			api.Fst{States: 3, Final: []int{api.None, 1, 1}, Arcs: []api.Arc{arc(0, 1, 1, 1, 1), arc(0, 1, 1, 2, 1), arc(1, 2, 2, 2, 3)}},
		},
		"the start is numbered anew": {
			api.Fst{States: 4, Start: 2, Final: []int{0, 3, api.None, 4}, Arcs: []api.Arc{arc(0, 1, 1, 1, 9), arc(2, 1, 1, 1, 8), arc(2, 2, 2, 3, 7), arc(3, 0, 0, 2, 6)}},
			api.Fst{States: 3, Start: 1, Final: []int{3, api.None, 4}, Arcs: []api.Arc{arc(1, 1, 1, 0, 8), arc(1, 2, 2, 2, 7), arc(2, 0, 0, 1, 6)}},
		},
		"nothing is final":        {api.Fst{States: 2, Start: 1, Final: []int{api.None, api.None}, Arcs: []api.Arc{arc(0, 1, 1, 1, 0), arc(1, 1, 1, 0, 0)}}, none},
		"no way to a final one":   {api.Fst{States: 2, Start: 1, Final: []int{0, api.None}, Arcs: []api.Arc{arc(0, 1, 1, 1, 0), arc(1, 1, 1, 1, 0)}}, none},
		"the start alone":         {api.Fst{States: 3, Start: 2, Final: []int{0, api.None, 5}, Arcs: []api.Arc{arc(0, 1, 1, 2, 0), arc(2, 1, 1, 1, 0), arc(2, 2, 2, 2, 3)}}, api.Fst{States: 1, Final: []int{5}, Arcs: []api.Arc{arc(0, 2, 2, 0, 3)}}},
		"a round that never ends": {api.Fst{States: 3, Final: []int{0, api.None, api.None}, Arcs: []api.Arc{arc(0, 1, 1, 1, 0), arc(1, 1, 1, 2, 0), arc(2, 1, 1, 1, 0)}}, api.Fst{States: 1, Final: []int{0}}},
		"as many as may be":       {full(), api.Fst{States: 15, Start: 14, Final: full().Final[:15], Arcs: lastOf(full())}},
	} {
		if g, e := Trim(c.f); e != api.OK || !same(g, c.want) {
			t.Errorf("%s: it is %v, %d and must be %v", name, g, e, c.want)
		}
	}
}

// lastOf has the arcs among the last 15 states of full, which are all that its Start comes to.
func lastOf(f api.Fst) []api.Arc {
	var l []api.Arc
	for _, a := range f.Arcs {
		if a.From >= 185 {
			l = append(l, arc(a.From-185, a.In, a.Out, a.To-185, a.Weight))
		}
	}
	return l
}

// A1, A3, P1: what Check says is told, and nothing else.
func TestTrimTellsWhatCheckSays(t *testing.T) {
	for _, f := range wrong() {
		if g, e := Trim(f); e != Check(f) || !same(g, api.Fst{}) {
			t.Errorf("%v: it is %v, %d", f, g, e)
		}
	}
}

// lies tells for each state, by going over all pairs of states, whether it lies on a way from Start to a final one.
func lies(f api.Fst) []bool {
	way := make([][]bool, f.States)
	for i := range way {
		way[i] = make([]bool, f.States)
		way[i][i] = true
	}
	for _, a := range f.Arcs {
		way[a.From][a.To] = true
	}
	for k := range way {
		for i := range way {
			for j := range way {
				way[i][j] = way[i][j] || way[i][k] && way[k][j]
			}
		}
	}
	l := make([]bool, f.States)
	for i := range l {
		for j, w := range f.Final {
			l[i] = l[i] || w != api.None && way[f.Start][i] && way[i][j]
		}
	}
	return l
}

// A3: many, held against another way to find the states that stay; what is trimmed twice is as it was.
func TestTrimOfMany(t *testing.T) {
	d := draw(3)
	for range 2000 {
		f := d.fst(1+d.below(7), 1, 2+d.below(30))
		g, e := Trim(f)
		if e != api.OK || Check(g) != api.OK {
			t.Fatalf("%v: it is %v, %d", f, g, e)
		}
		want := api.Fst{}
		var anew []int
		for i, ok := range lies(f) {
			anew = append(anew, want.States)
			if ok {
				want.States++
				want.Final = append(want.Final, f.Final[i])
			}
		}
		want.Start = anew[f.Start]
		for _, a := range f.Arcs {
			if l := lies(f); l[a.From] && l[a.To] {
				want.Arcs = append(want.Arcs, arc(anew[a.From], a.In, a.Out, anew[a.To], a.Weight))
			}
		}
		if want.States == 0 {
			want = api.Fst{States: 1, Final: []int{api.None}}
		}
		if !same(g, want) {
			t.Fatalf("%v: it is %v and must be %v", f, g, want)
		}
		if h, _ := Trim(g); !same(g, h) {
			t.Fatalf("%v: trimmed twice it is %v", g, h)
		}
	}
}
