package oneway

import (
	"testing"

	"fareway/api"
)

// Spots have one number for each, from 0 on, if one is as much dearer than the other, whatever they cost.
func TestMeet(t *testing.T) {
	s := subsets{number: map[spots]int{}}
	for _, c := range []struct {
		costs            []int
		number, cheapest int
	}{
		{[]int{0, api.None, 0}, 0, 0},
		{[]int{api.None, 4, api.None}, 1, 4},
		{[]int{7, api.None, 7}, 0, 7},
		{[]int{7, api.None, 8}, 2, 7},
		{[]int{1, api.None, 0}, 3, 0},
		{[]int{api.None, 0, api.None}, 1, 0},
		{[]int{3, api.None, 4}, 2, 3},
		{[]int{api.None, api.None, 0}, 4, 0},
		{[]int{0, 0, 0}, 5, 0},
		{[]int{2 * api.MaxWeight, api.None, 5 * api.MaxWeight}, 6, 2 * api.MaxWeight},
	} {
		if number, cheapest := s.meet(c.costs); number != c.number || cheapest != c.cheapest {
			t.Errorf("%v: it is %d, %d and must be %d, %d", c.costs, number, cheapest, c.number, c.cheapest)
		}
	}
	if len(s.met) != 7 {
		t.Errorf("%d are met", len(s.met))
	}
	if l := s.met[2]; l[0] != 0 || l[1] != api.None || l[2] != 1 || l[3] != api.None || l[api.MaxStates-1] != api.None {
		t.Errorf("it is %v", l)
	}
}
