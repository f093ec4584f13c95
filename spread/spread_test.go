package spread

import (
	"slices"
	"testing"

	"fareway/api"
)

func arc(from, to, weight int) api.Arc { return api.Arc{From: from, To: to, Weight: weight} }

func ahead(a api.Arc) (int, int) { return a.From, a.To }

func back(a api.Arc) (int, int) { return a.To, a.From }

func TestCosts(t *testing.T) {
	arcs := []api.Arc{arc(0, 1, 4), arc(0, 2, 1), arc(1, 3, 0), arc(2, 1, 2), arc(3, 1, 0), arc(4, 0, 7)}
	for _, c := range []struct {
		begin     []int
		ends      func(api.Arc) (int, int)
		costs, by []int
	}{
		{Only(5, 0), ahead, []int{0, 3, 1, 3, api.None}, []int{NoArc, 3, 1, 2, NoArc}},
		{Only(5, 3), back, []int{3, 0, 2, 0, 10}, []int{1, 2, 3, NoArc, 5}},
		{Only(5, 4), ahead, []int{7, 10, 8, 10, 0}, []int{5, 3, 1, 2, NoArc}},
		{[]int{api.None, 9, 9, 1, api.None}, ahead, []int{api.None, 1, 9, 1, api.None}, []int{NoArc, 4, NoArc, NoArc, NoArc}},
		{[]int{2, api.None, api.None, 9, api.None}, back, []int{2, 9, 11, 9, 9}, []int{NoArc, 2, 3, NoArc, 5}},
		{slices.Repeat([]int{api.None}, 5), ahead, slices.Repeat([]int{api.None}, 5), slices.Repeat([]int{NoArc}, 5)},
	} {
		was := slices.Clone(c.begin)
		costs, by := Costs(c.begin, arcs, c.ends)
		if !slices.Equal(costs, c.costs) || !slices.Equal(by, c.by) {
			t.Errorf("from %v: it is %v, %v and must be %v, %v", c.begin, costs, by, c.costs, c.by)
		}
		if !slices.Equal(was, c.begin) {
			t.Errorf("%v was changed to %v", was, c.begin)
		}
	}
}

// Arcs for nothing that lead round: what by tells never does.
func TestByNeverLeadsRound(t *testing.T) {
	var arcs []api.Arc
	for from := range 6 {
		for to := range 6 {
			arcs = append(arcs, arc(from, to, 0))
		}
	}
	for start := range 6 {
		_, by := Costs(Only(6, start), arcs, ahead)
		for state := range 6 {
			steps := 0
			for n := by[state]; n != NoArc; n = by[arcs[n].From] {
				if steps++; steps > 6 {
					t.Fatalf("from %d: %v leads round", start, by)
				}
			}
		}
	}
}

func TestPrices(t *testing.T) {
	for _, c := range []struct {
		a, b, sum int
		less      bool
	}{
		{1, 2, 3, true}, {2, 1, 3, false}, {2, 2, 4, false}, {0, 0, 0, false},
		{0, api.None, api.None, true}, {api.None, 0, api.None, false}, {api.None, api.None, api.None, false},
	} {
		if Sum(c.a, c.b) != c.sum || Less(c.a, c.b) != c.less {
			t.Errorf("%d, %d: it is %d, %v and must be %d, %v", c.a, c.b, Sum(c.a, c.b), Less(c.a, c.b), c.sum, c.less)
		}
	}
}

func TestCheapest(t *testing.T) {
	for _, c := range []struct {
		costs []int
		want  int
	}{
		{nil, api.None},
		{[]int{api.None, api.None}, api.None},
		{[]int{0}, 0},
		{[]int{api.None, 5, api.None, 3, 4}, 3},
	} {
		if is := Cheapest(c.costs); is != c.want {
			t.Errorf("%v: it is %d and must be %d", c.costs, is, c.want)
		}
	}
}
