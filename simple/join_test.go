package simple

import (
	"testing"

	"fareway/api"
	"fareway/fst"
	"fareway/score"
)

// cost of a pair of words.
func cost(t *testing.T, f api.Fst, in, out []int) int {
	t.Helper()
	n, e := score.Score(f, in, out)
	if e != api.OK {
		t.Fatalf("%v %v %v: %d", f, in, out, e)
	}
	return n
}

// better of two prices, of which either may be None.
func better(a, b int) int {
	if a == api.None || b == api.None {
		return max(a, b)
	}
	return min(a, b)
}

// sum of two prices; None, if one is.
func sum(a, b int) int {
	if a == api.None || b == api.None {
		return api.None
	}
	return a + b
}

// split: the best of what the beginnings cost by head, and the rests by tail.
func split(in, out []int, head, tail func(in, out []int) int) int {
	best := api.None
	for i := range len(in) + 1 {
		for k := range len(out) + 1 {
			best = better(best, sum(head(in[:i], out[:k]), tail(in[i:], out[k:])))
		}
	}
	return best
}

// pieces: the best of what any number of pieces of f cost; one that reads and writes nothing makes nothing better.
func pieces(t *testing.T, f api.Fst, in, out []int) int {
	t.Helper()
	if len(in)+len(out) == 0 {
		return 0
	}
	head := func(i, o []int) int { return cost(t, f, i, o) }
	tail := func(i, o []int) int {
		if len(i)+len(o) == len(in)+len(out) {
			return api.None
		}
		return pieces(t, f, i, o)
	}
	return split(in, out, head, tail)
}

// right: it passes Check, and has at most two states more than that.
func right(t *testing.T, name string, f api.Fst, e api.Errno, states int) {
	t.Helper()
	if e != api.OK || fst.Check(f) != api.OK || f.States > states+2 {
		t.Fatalf("%s: it is %v, %d", name, f, e)
	}
}

// C2 and example 3.
func TestJoinByHand(t *testing.T) {
	f := one()
	two := api.Fst{States: 1, Final: []int{4}, Arcs: []api.Arc{arc(0, 2, 2, 0, 2)}}
	turned, _ := Invert(f)
	either, a := Either(f, two)
	behind, b := Behind(f, turned)
	again, c := Again(f)
	right(t, "either", either, a, 3)
	right(t, "behind", behind, b, 4)
	right(t, "again", again, c, 2)
	for _, c := range []struct {
		f       api.Fst
		in, out []int
		want    int
	}{
		{either, []int{2}, []int{2}, 6},
		{either, []int{1}, []int{2}, 6},
		{either, nil, nil, 4},
		{either, []int{2, 2}, []int{2, 2}, 8},
		{either, []int{1, 2}, []int{2, 2}, api.None},
		{behind, []int{1, 2}, []int{2, 1}, 12},
		{behind, []int{1}, []int{2}, api.None},
		{behind, []int{2}, []int{1}, api.None},
		{behind, nil, nil, api.None},
		{again, nil, nil, 0},
		{again, []int{1}, []int{2}, 6},
		{again, []int{1, 1}, []int{2, 2}, 12},
		{again, []int{1, 1, 1}, []int{2, 2, 2}, 18},
		{again, []int{1, 1}, []int{2}, api.None},
	} {
		if n := cost(t, c.f, c.in, c.out); n != c.want {
			t.Errorf("%v %v %v: it costs %d and must cost %d", c.f, c.in, c.out, n, c.want)
		}
	}
}

// C2: arcs back to the start, and a start where it costs to end, or where one can't: no piece goes on in another one unpaid.
func TestJoinThroughTheStart(t *testing.T) {
	loop := api.Fst{States: 2, Final: []int{3, api.None}, Arcs: []api.Arc{arc(0, 1, 1, 1, 1), arc(1, 2, 2, 0, 1)}}
	back := api.Fst{States: 2, Start: 1, Final: []int{5, api.None}, Arcs: []api.Arc{arc(0, 0, 0, 1, 0), arc(0, 2, 2, 0, 1), arc(1, 1, 1, 0, 1)}}
	either, _ := Either(loop, back)
	behind, _ := Behind(loop, back)
	again, _ := Again(back)
	for _, c := range []struct {
		f    api.Fst
		word []int
		want int
	}{
		{either, nil, 3},
		{either, []int{1}, 6},
		{either, []int{1, 2}, 5},
		{either, []int{1, 2, 1}, 8},
		{either, []int{1, 2, 1, 2}, 7},
		{either, []int{1, 2, 2}, 8},
		{behind, nil, api.None},
		{behind, []int{1}, 9},
		{behind, []int{1, 2}, 10},
		{behind, []int{1, 2, 1, 2, 2}, 13},
		{again, nil, 0},
		{again, []int{1, 1}, 7},
		{again, []int{2}, api.None},
	} {
		if n := cost(t, c.f, c.word, c.word); n != c.want {
			t.Errorf("%v %v: it costs %d and must cost %d", c.f, c.word, n, c.want)
		}
	}
}

// C2, C3: many, held against what their pieces cost.
func TestJoinOfMany(t *testing.T) {
	d := draw(3)
	can := [3]int{}
	for range 400 {
		f, g := d.fst(1+d.below(4), 2, 3+d.below(12)), d.fst(1+d.below(4), 2, 3+d.below(12))
		either, a := Either(f, g)
		behind, b := Behind(f, g)
		again, c := Again(f)
		right(t, "either", either, a, f.States+g.States)
		right(t, "behind", behind, b, f.States+g.States)
		right(t, "again", again, c, f.States)
		for range 5 {
			in, out := d.word(4, 2), d.word(4, 2)
			ofF := func(in, out []int) int { return cost(t, f, in, out) }
			ofG := func(in, out []int) int { return cost(t, g, in, out) }
			want := [3]int{better(ofF(in, out), ofG(in, out)), split(in, out, ofF, ofG), pieces(t, f, in, out)}
			if is := [3]int{cost(t, either, in, out), cost(t, behind, in, out), cost(t, again, in, out)}; is != want {
				t.Fatalf("%v, %v: %v %v: either, behind, again cost %v and must cost %v", f, g, in, out, is, want)
			}
			for i, n := range want {
				can[i] += min(n+1, 1)
			}
		}
	}
	if min(can[0], can[1], can[2]) < 300 {
		t.Errorf("only %v can be: too few to tell", can)
	}
}

// C2: as many states and arcs as may be, all of them ends and as dear as may be; and one more.
func TestJoinTheGreatest(t *testing.T) {
	none := api.Fst{States: 1, Final: []int{api.None}}
	last := api.MaxStates - 2
	for _, c := range []struct {
		f, g api.Fst
		want api.Errno
	}{
		{sized(last-1, 2500), none, api.OK},
		{none, sized(last-1, 2500), api.OK},
		{sized(99, 1250), sized(99, 1250), api.OK},
		{sized(last, 0), none, api.ErrMany},
		{none, sized(last, 0), api.ErrMany},
		{sized(99, 0), sized(100, 0), api.ErrMany},
		{sized(api.MaxStates, 0), sized(api.MaxStates, 0), api.ErrMany},
		{sized(50, 2501), none, api.ErrMany},
		{none, sized(50, 2501), api.ErrMany},
		{sized(50, 1250), sized(50, 1251), api.ErrMany},
		{sized(50, 3000), sized(50, 3000), api.ErrMany},
	} {
		for name, join := range map[string]func(f, g api.Fst) (api.Fst, api.Errno){"either": Either, "behind": Behind} {
			h, e := join(c.f, c.g)
			if e != c.want || e != api.OK && !same(h, api.Fst{}) {
				t.Errorf("%s of %d, %d and %d, %d: it is %d and must be %d", name, c.f.States, len(c.f.Arcs), c.g.States, len(c.g.Arcs), e, c.want)
			} else if e == api.OK {
				right(t, name, h, e, c.f.States+c.g.States)
			}
		}
	}
	for _, c := range []struct {
		states, arcs int
		want         api.Errno
	}{
		{last, 2500, api.OK}, {last + 1, 0, api.ErrMany}, {api.MaxStates, 0, api.ErrMany}, {50, 2501, api.ErrMany}, {50, 3000, api.ErrMany},
	} {
		h, e := Again(sized(c.states, c.arcs))
		if e != c.want || e != api.OK && !same(h, api.Fst{}) {
			t.Errorf("again of %d, %d: it is %d and must be %d", c.states, c.arcs, e, c.want)
		} else if e == api.OK {
			right(t, "again", h, e, c.states)
		}
	}
}
