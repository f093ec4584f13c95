package order

import (
	"math"
	"slices"
	"testing"

	"fareway/api"
)

func arc(from, in, out, to, weight int) api.Arc {
	return api.Arc{From: from, In: in, Out: out, To: to, Weight: weight}
}

// A1: by From, then In, then Out, then To; the weight does not tell.
func TestCompare(t *testing.T) {
	rising := []api.Arc{
		arc(0, 0, 0, 0, 9), arc(0, 0, 0, 1, 8), arc(0, 0, 1, 0, 7), arc(0, 1, 0, 0, 6), arc(0, 1, 0, 1, 5),
		arc(0, 1, 1, 0, 4), arc(1, 0, 0, 0, 3), arc(1, 0, 0, 9, 3), arc(1, 0, 9, 0, 2), arc(1, 9, 0, 0, 1), arc(9, 0, 0, 0, 0),
	}
	for i, a := range rising {
		for k, b := range rising {
			b.Weight += 5 * (i - k)
			if n := Compare(a, b); n < 0 != (i < k) || n > 0 != (i > k) {
				t.Errorf("%v %v: it is %d", a, b, n)
			}
		}
	}
	if Compare(arc(math.MinInt, 0, 0, 0, 0), arc(math.MaxInt, 0, 0, 0, 0)) >= 0 {
		t.Error("the least number stands behind the greatest one")
	}
}

// C1, D1: in their order, of the same only the least weight, wherever it stands; what is handed in stays as it is.
func TestLeast(t *testing.T) {
	arcs := []api.Arc{arc(1, 2, 2, 0, 4), arc(0, 1, 1, 1, 5), arc(1, 2, 2, 0, 3), arc(0, 1, 1, 1, 7), arc(1, 2, 2, 0, 9), arc(0, 1, 1, 0, 8)}
	was := slices.Clone(arcs)
	want := []api.Arc{arc(0, 1, 1, 0, 8), arc(0, 1, 1, 1, 5), arc(1, 2, 2, 0, 3)}
	if l := Least(arcs); !slices.Equal(l, want) || !slices.Equal(arcs, was) {
		t.Errorf("%v: it is %v and must be %v", was, l, want)
	}
	if l := Least(nil); len(l) > 0 {
		t.Errorf("of nothing it is %v", l)
	}
}
