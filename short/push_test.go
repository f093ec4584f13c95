package short

import (
	"testing"

	"fareway/api"
	"fareway/fst"
	"fareway/score"
)

// pushed, worked out from F2's words arc by arc; whether a weight is too great, too.
func pushed(f api.Fst) (api.Fst, int, bool) {
	to := ends(f)
	p := api.Fst{States: f.States, Start: f.Start}
	if to[f.Start] == api.None {
		p.Final = f.Final
		return p, api.None, false
	}
	great := false
	for state, cost := range f.Final {
		if cost != api.None {
			cost -= to[state]
		}
		p.Final = append(p.Final, cost)
	}
	for _, a := range f.Arcs {
		if to[a.From] != api.None && to[a.To] != api.None {
			a.Weight = a.Weight - to[a.From] + to[a.To]
			great = great || a.Weight > api.MaxWeight
			p.Arcs = append(p.Arcs, a)
		}
	}
	return p, to[f.Start], great
}

// checkPushed: F2, and of F3 that each state that leads to an end has an arc, or an end, for nothing. It answers what was pushed.
func checkPushed(t *testing.T, f api.Fst) (api.Fst, int) {
	t.Helper()
	want, told, great := pushed(f)
	p, n, e := Push(f)
	if great {
		if e != api.ErrMany || !same(p, api.Fst{}) || n != 0 {
			t.Fatalf("%v: it is %v, %d, %d, and a weight is too great", f, p, n, e)
		}
		return f, 0
	}
	if e != api.OK || n != told || !same(p, want) || fst.Check(p) != api.OK {
		t.Fatalf("%v: it is %v, %d, %d and must be %v, %d", f, p, n, e, want, told)
	}
	if told == api.None {
		return p, 0
	}
	for state, cost := range ends(f) {
		if cost == api.None {
			continue
		}
		free := p.Final[state] == 0
		for _, a := range p.Arcs {
			free = free || a.From == state && a.Weight == 0
		}
		if !free {
			t.Fatalf("%v: %v has nothing for nothing at %d", f, p, state)
		}
	}
	return p, n
}

// F2 and example 6.
func TestPushByHand(t *testing.T) {
	none := api.None
	for _, c := range []struct {
		f, want api.Fst
		told    int
	}{
		{one(), api.Fst{States: 2, Final: []int{none, 0}, Arcs: []api.Arc{arc(0, 1, 2, 1, 0)}}, 6},
		{api.Fst{States: 1, Final: []int{9}}, api.Fst{States: 1, Final: []int{0}}, 9},
		{api.Fst{States: 1, Final: []int{9}, Arcs: []api.Arc{arc(0, 1, 1, 0, 4)}}, api.Fst{States: 1, Final: []int{0}, Arcs: []api.Arc{arc(0, 1, 1, 0, 4)}}, 9},
		// Arcs from and to states that lead to no end are gone; those of states that are not come to stay.
		{api.Fst{States: 4, Start: 1, Final: []int{3, none, none, none}, Arcs: []api.Arc{arc(1, 1, 1, 0, 2), arc(1, 2, 2, 3, 0), arc(2, 1, 1, 0, 8), arc(3, 1, 1, 3, 1)}},
			api.Fst{States: 4, Start: 1, Final: []int{0, none, none, none}, Arcs: []api.Arc{arc(1, 1, 1, 0, 0), arc(2, 1, 1, 0, 0)}}, 5},
		// No end can be come to: as it was, also what it costs to end elsewhere, but without arcs, even those that lead to ends.
		{api.Fst{States: 3, Start: 2, Final: []int{5, 6, none}, Arcs: []api.Arc{arc(0, 1, 1, 1, 2), arc(0, 1, 1, 2, 2), arc(2, 1, 1, 2, 2)}},
			api.Fst{States: 3, Start: 2, Final: []int{5, 6, none}}, none},
		{api.Fst{States: 1, Final: []int{none}}, api.Fst{States: 1, Final: []int{none}}, none},
	} {
		p, n, e := Push(c.f)
		if !same(p, c.want) || n != c.told || e != api.OK {
			t.Errorf("%v: it is %v, %d, %d and must be %v, %d", c.f, p, n, e, c.want, c.told)
		}
	}
}

// F2, F3: many, held against what is worked out from the words; with what is told they cost the same.
func TestPushOfMany(t *testing.T) {
	d := draw(3)
	can := 0
	for range 1500 {
		f := d.fst(1+d.below(6), 1+d.below(2), 3+d.below(30))
		p, told := checkPushed(t, f)
		for range 5 {
			in, out := d.word(4, 2), d.word(4, 2)
			a, _ := score.Score(f, in, out)
			b, e := score.Score(p, in, out)
			if e != api.OK || a != sum(b, told) {
				t.Fatalf("%v: %v: %v %v cost %d, then %d and %d are told", f, p, in, out, a, b, told)
			}
			can += min(a+1, 1)
		}
	}
	if can < 500 {
		t.Errorf("only %d can be: too few to tell", can)
	}
}

// F2: weights as great as may be, and one more; on arcs that are not come to, too, but not on those that are gone.
func TestPushGreatWeights(t *testing.T) {
	none, most := api.None, api.MaxWeight
	dear := func(weight, end int) api.Fst {
		return api.Fst{States: 3, Final: []int{0, end, none}, Arcs: []api.Arc{arc(0, 1, 1, 1, weight), arc(0, 1, 1, 2, most)}}
	}
	apart := dear(most, 1)
	apart.Start = 1
	gone := dear(most, most)
	gone.Start = 2
	for _, c := range []struct {
		f    api.Fst
		told int
		want api.Errno
	}{
		{dear(most, 0), 0, api.OK},
		{dear(most-4, 4), 0, api.OK},
		{dear(0, most), 0, api.OK},
		{dear(most-4, 5), 0, api.ErrMany},
		{dear(1, most), 0, api.ErrMany},
		{dear(most, most), 0, api.ErrMany},
		{apart, 0, api.ErrMany},
		{gone, none, api.OK},
		{dear(most, none), 0, api.OK},
	} {
		p, told, e := Push(c.f)
		if e != c.want || told != c.told || e != api.OK && !same(p, api.Fst{}) {
			t.Errorf("%v: it is %v, %d, %d and must be %d, %d", c.f, p, told, e, c.told, c.want)
		}
		checkPushed(t, c.f)
	}
}

// F2: great weights by chance, about half of them too great.
func TestPushGreatWeightsOfMany(t *testing.T) {
	d := draw(4)
	many := 0
	for range 1000 {
		f := d.fst(2+d.below(4), 1, 4+d.below(8))
		for i := range f.Arcs {
			f.Arcs[i].Weight = d.below(5) * (api.MaxWeight / 4)
		}
		for i := range f.Final {
			f.Final[i] = max(api.None, f.Final[i]*(api.MaxWeight/8))
		}
		checkPushed(t, f)
		if _, _, great := pushed(f); great {
			many++
		}
	}
	if many < 200 || many > 800 {
		t.Errorf("%d are too great: too few to tell", many)
	}
}
