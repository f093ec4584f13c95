package short

import (
	"slices"
	"testing"

	"fareway/api"
	"fareway/fst"
)

// between has what it costs at least from each state to each one, worked out another way: by taking in the states between one by one.
func between(f api.Fst) [][]int {
	costs := make([][]int, f.States)
	for from := range costs {
		costs[from] = slices.Repeat([]int{api.None}, f.States)
		costs[from][from] = 0
	}
	for _, a := range f.Arcs {
		costs[a.From][a.To] = better(costs[a.From][a.To], a.Weight)
	}
	for middle := range f.States {
		for from := range f.States {
			for to := range f.States {
				costs[from][to] = better(costs[from][to], sum(costs[from][middle], costs[middle][to]))
			}
		}
	}
	return costs
}

// better of two prices, of which either may be None.
func better(a, b int) int {
	if a == api.None || b == api.None {
		return max(a, b)
	}
	return min(a, b)
}

// sum of two prices; None, if one is.
func sum(a, b int) int {
	if a == api.None || b == api.None {
		return api.None
	}
	return a + b
}

// ends has what it costs at least from each state to an end.
func ends(f api.Fst) []int {
	var l []int
	for _, row := range between(f) {
		best := api.None
		for state, cost := range row {
			best = better(best, sum(cost, f.Final[state]))
		}
		l = append(l, best)
	}
	return l
}

// checkWay: a way goes from Start along arcs to an end, has no state twice, and costs what is told, which is the best; and there is none where none can be.
func checkWay(t *testing.T, f api.Fst, want int) {
	t.Helper()
	way, cost, e := Best(f)
	if e != api.OK || cost != want {
		t.Fatalf("%v: it is %v, %d, %d and must cost %d", f, way, cost, e, want)
	}
	if want == api.None {
		if len(way) > 0 {
			t.Fatalf("%v: there can be no way, and it is %v", f, way)
		}
		return
	}
	at, paid := f.Start, 0
	met := []int{at}
	for _, n := range way {
		if n < 0 || n >= len(f.Arcs) || f.Arcs[n].From != at || slices.Contains(met, f.Arcs[n].To) {
			t.Fatalf("%v: %v does not go on, or has a state twice", f, way)
		}
		at = f.Arcs[n].To
		paid += f.Arcs[n].Weight
		met = append(met, at)
	}
	if sum(f.Final[at], paid) != want {
		t.Fatalf("%v: %v costs %d, %d and must cost %d", f, way, paid, f.Final[at], want)
	}
}

// F1 and example 6.
func TestByHand(t *testing.T) {
	for _, c := range []struct {
		f        api.Fst
		from, to []int
	}{
		{one(), []int{0, 5}, []int{6, 1}},
		{api.Fst{States: 1, Final: []int{api.None}}, []int{0}, []int{api.None}},
		{api.Fst{States: 1, Final: []int{7}}, []int{0}, []int{7}},
		{api.Fst{States: 1, Final: []int{7}, Arcs: []api.Arc{arc(0, 0, 0, 0, 0)}}, []int{0}, []int{7}},
		{api.Fst{States: 3, Start: 1, Final: []int{4, 9, api.None}, Arcs: []api.Arc{arc(1, 0, 0, 0, 2), arc(1, 1, 1, 0, 1), arc(1, 1, 1, 2, 0), arc(2, 0, 1, 2, 3)}},
			[]int{1, 0, 0}, []int{4, 5, api.None}},
		{api.Fst{States: 3, Start: 2, Final: []int{0, 0, api.None}, Arcs: []api.Arc{arc(0, 1, 1, 2, 1), arc(1, 1, 1, 0, 1)}},
			[]int{api.None, api.None, 0}, []int{0, 0, api.None}},
		{api.Fst{States: 2, Final: []int{8, 0}, Arcs: []api.Arc{arc(0, 0, 0, 1, 0), arc(1, 0, 0, 0, 0)}}, []int{0, 0}, []int{0, 0}},
	} {
		from, a := From(c.f)
		to, b := To(c.f)
		if !slices.Equal(from, c.from) || a != api.OK || !slices.Equal(to, c.to) || b != api.OK {
			t.Errorf("%v: it is %v %d, %v %d and must be %v, %v", c.f, from, a, to, b, c.from, c.to)
		}
		checkWay(t, c.f, c.to[c.f.Start])
	}
}

// F1: many, held against what is worked out another way.
func TestMany(t *testing.T) {
	d := draw(1)
	none, round := 0, 0
	for range 3000 {
		f := d.fst(1+d.below(7), 1, 3+d.below(30))
		costs, to := between(f), ends(f)
		a, e := From(f)
		if !slices.Equal(a, costs[f.Start]) || e != api.OK {
			t.Fatalf("%v: From is %v, %d and must be %v", f, a, e, costs[f.Start])
		}
		b, e := To(f)
		if !slices.Equal(b, to) || e != api.OK {
			t.Fatalf("%v: To is %v, %d and must be %v", f, b, e, to)
		}
		checkWay(t, f, to[f.Start])
		if to[f.Start] == api.None {
			none++
		}
		if slices.ContainsFunc(f.Arcs, func(a api.Arc) bool { return a.From != a.To && costs[a.From][a.To]+costs[a.To][a.From] == 0 }) {
			round++
		}
	}
	if none < 300 || none > 2000 || round < 300 {
		t.Errorf("%d have no way, %d lead round for nothing: too few to tell", none, round)
	}
}

// F1: ways that cost more than a weight may be, through all states, whichever way the arcs stand.
func TestLongWays(t *testing.T) {
	last := api.MaxStates - 1
	up := api.Fst{States: api.MaxStates, Final: slices.Repeat([]int{api.None}, api.MaxStates)}
	down := api.Fst{States: api.MaxStates, Start: last, Final: slices.Clone(up.Final)}
	up.Final[last], down.Final[0] = api.MaxWeight, api.MaxWeight
	for n := range last {
		up.Arcs = append(up.Arcs, arc(n, 1, 2, n+1, api.MaxWeight))
		down.Arcs = append(down.Arcs, arc(n+1, 1, 2, n, api.MaxWeight))
	}
	for _, f := range []api.Fst{up, down} {
		from, _ := From(f)
		to, _ := To(f)
		for state := range f.States {
			way := max(state-f.Start, f.Start-state)
			if from[state] != way*api.MaxWeight || to[state] != (api.MaxStates-way)*api.MaxWeight {
				t.Fatalf("state %d: it is %d, %d", state, from[state], to[state])
			}
		}
		checkWay(t, f, api.MaxStates*api.MaxWeight)
		p, told, e := Push(f)
		if e != api.OK || told != api.MaxStates*api.MaxWeight || fst.Check(p) != api.OK {
			t.Errorf("pushed: %d, %d", told, e)
		}
	}
}

// F1: as many states and arcs as may be.
func TestTheGreatest(t *testing.T) {
	d := draw(2)
	for range 3 {
		f := d.fst(api.MaxStates, 1, 60)
		f.Arcs = f.Arcs[:min(len(f.Arcs), api.MaxArcs)]
		a, _ := From(f)
		b, _ := To(f)
		to := ends(f)
		if !slices.Equal(a, between(f)[f.Start]) || !slices.Equal(b, to) {
			t.Fatal("it costs something else")
		}
		checkWay(t, f, to[f.Start])
		checkPushed(t, f)
	}
}
