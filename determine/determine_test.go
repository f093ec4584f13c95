package determine

import (
	"fmt"
	"slices"
	"testing"

	"fareway/api"
	"fareway/fst"
)

// sized has that many states, which all are final.
func sized(states int, arcs ...api.Arc) api.Fst {
	return api.Fst{States: states, Final: make([]int, states), Arcs: arcs}
}

// chain of states by one letter, each final.
func chain(states int) api.Fst {
	f := sized(states)
	for state := range states - 1 {
		f.Arcs = append(f.Arcs, arc(state, 1, state+1, 1))
	}
	return f
}

// G1 and example 7.
func TestIsByHand(t *testing.T) {
	for _, c := range []struct {
		f    api.Fst
		want bool
	}{
		{sized(1), true},
		{api.Fst{States: 1, Final: []int{api.None}}, true},
		{twice(), false},
		{sized(2, arc(0, 1, 0, 0), arc(0, 1, 1, 0)), false},
		{sized(2, arc(0, 1, 1, 0), arc(0, 2, 1, 0), arc(1, 1, 0, 0), arc(1, 2, 1, 0)), true},
		{sized(2, arc(0, 1, 1, 0), arc(0, 2, 1, 0), arc(0, 3, 0, 0), arc(0, 3, 1, 0)), false},
		{sized(2, arc(0, 0, 1, 0)), false},
		{sized(2, api.Arc{In: 1, Out: 2, To: 1}), false},
		{sized(2, api.Arc{In: 1, Out: 0, To: 1}), false},
		{sized(2, api.Arc{In: 0, Out: 1, To: 1}), false},
		// What can't be come to counts, too.
		{sized(3, arc(1, 1, 0, 0), arc(1, 1, 2, 0)), false},
		{sized(3, arc(2, 0, 1, 0)), false},
		{chain(200), true},
	} {
		if is, e := Is(c.f); is != c.want || e != api.OK {
			t.Errorf("%v: it is %v, %d and must be %v", c.f, is, e, c.want)
		}
	}
}

// G1: held against all pairs of arcs.
func TestIsOfMany(t *testing.T) {
	d := draw(1)
	can := 0
	for range 3000 {
		f := d.any(1+d.below(5), 2+d.below(4))
		want := true
		for i, a := range f.Arcs {
			want = want && a.In == a.Out && a.In != 0
			for _, b := range f.Arcs[:i] {
				want = want && (a.From != b.From || a.In != b.In)
			}
		}
		if want {
			can++
		}
		if is, e := Is(f); is != want || e != api.OK {
			t.Fatalf("%v: it is %v, %d and must be %v", f, is, e, want)
		}
	}
	if can < 300 || can > 2700 {
		t.Errorf("%d are so: too few, or too many, to tell", can)
	}
}

// G1: Round.
func TestRoundByHand(t *testing.T) {
	back := chain(200)
	back.Arcs = append(back.Arcs, arc(199, 1, 0, 0))
	for _, c := range []struct {
		f    api.Fst
		want bool
	}{
		{sized(1), false},
		{sized(1, arc(0, 1, 0, 0)), true},
		{sized(1, arc(0, 0, 0, 0)), true},
		{sized(1, api.Arc{In: 1, Out: 2}), true},
		{sized(2, arc(0, 1, 1, 0), arc(0, 2, 1, 0)), false},
		{sized(2, arc(0, 1, 1, 0), arc(1, 1, 0, 0)), true},
		{sized(4, arc(0, 1, 1, 0), arc(0, 1, 2, 0), arc(1, 1, 3, 0), arc(2, 1, 3, 0)), false},
		{sized(4, arc(0, 1, 1, 0), arc(0, 1, 2, 0), arc(1, 1, 3, 0), arc(2, 1, 3, 0), arc(3, 1, 1, 0)), true},
		// What can't be come to counts, and what leads to no end.
		{sized(3, arc(1, 1, 2, 0), arc(2, 1, 1, 0)), true},
		{api.Fst{States: 2, Final: []int{0, api.None}, Arcs: []api.Arc{arc(0, 1, 1, 0), arc(1, 1, 1, 0)}}, true},
		{chain(200), false},
		{back, true},
		{twice(), false},
	} {
		if is, e := Round(c.f); is != c.want || e != api.OK {
			t.Errorf("%v: it is %v, %d and must be %v", c.f, is, e, c.want)
		}
	}
}

// G1: held against where ways of any length lead.
func TestRoundOfMany(t *testing.T) {
	d := draw(2)
	can := 0
	for range 3000 {
		f := d.any(1+d.below(6), 2+d.below(12))
		leads := map[[2]int]int{}
		for _, a := range f.Arcs {
			leads[[2]int{a.From, a.To}] = 1
		}
		for by := range f.States {
			for from := range f.States {
				for to := range f.States {
					leads[[2]int{from, to}] |= leads[[2]int{from, by}] & leads[[2]int{by, to}]
				}
			}
		}
		want := false
		for state := range f.States {
			want = want || leads[[2]int{state, state}] == 1
		}
		if want {
			can++
		}
		if is, e := Round(f); is != want || e != api.OK {
			t.Fatalf("%v: it is %v, %d and must be %v", f, is, e, want)
		}
	}
	if can < 300 || can > 2700 {
		t.Errorf("%d are so: too few, or too many, to tell", can)
	}
}

// right: it passes Check, Is, does not go Round, and costs the same for each of the words.
func right(t *testing.T, f, g api.Fst, words [][]int) {
	t.Helper()
	if e := fst.Check(g); e != api.OK {
		t.Fatalf("%v: it is %v, of which Check says %d", f, g, e)
	}
	is, _ := Is(g)
	round, _ := Round(g)
	if !is || round {
		t.Fatalf("%v: it is %v, of which Is says %v, and Round %v", f, g, is, round)
	}
	for _, w := range words {
		if is, must := cost(t, g, w), cost(t, f, w); is != must {
			t.Fatalf("%v: it is %v: %v costs %d and must cost %d", f, g, w, is, must)
		}
	}
}

// made is what Determine makes, which must be no error.
func made(t *testing.T, f api.Fst) api.Fst {
	t.Helper()
	g, e := Determine(f)
	if e != api.OK {
		t.Fatalf("%v: it is %v, %d", f, g, e)
	}
	return g
}

// G1, G2.
func TestDetermineByHand(t *testing.T) {
	none := api.None
	for _, c := range []struct {
		f    api.Fst
		word []int
		want int
	}{
		{twice(), []int{1}, 4},
		{twice(), []int{1, 2}, 8},
		{twice(), nil, none},
		{api.Fst{States: 1, Final: []int{none}}, nil, none},
		{api.Fst{States: 1, Final: []int{7}}, nil, 7},
		// No way leads to an end; or none leads there from the start.
		{api.Fst{States: 2, Final: []int{none, none}, Arcs: []api.Arc{arc(0, 1, 1, 0)}}, []int{1}, none},
		{api.Fst{States: 2, Start: 1, Final: []int{0, none}, Arcs: []api.Arc{arc(0, 1, 1, 0)}}, []int{1}, none},
		// What is cheaper at first is dearer on the whole, for the one word and not for the other one.
		{api.Fst{States: 4, Final: []int{none, none, none, 1}, Arcs: []api.Arc{arc(0, 1, 1, 0), arc(0, 1, 2, 9), arc(1, 2, 3, 3), arc(1, 3, 3, 20), arc(2, 2, 3, 1), arc(2, 3, 3, 2)}}, []int{1, 2}, 4},
		{api.Fst{States: 4, Final: []int{none, none, none, 1}, Arcs: []api.Arc{arc(0, 1, 1, 0), arc(0, 1, 2, 9), arc(1, 2, 3, 3), arc(1, 3, 3, 20), arc(2, 2, 3, 1), arc(2, 3, 3, 2)}}, []int{1, 3}, 12},
		// One word ends where another one goes on.
		{api.Fst{States: 3, Start: 2, Final: []int{4, none, 6}, Arcs: []api.Arc{arc(1, 9, 0, 1), arc(2, 9, 0, 1), arc(2, 9, 1, 0)}}, []int{9}, 5},
	} {
		g := made(t, c.f)
		right(t, c.f, g, words(3, 3))
		if n := cost(t, g, c.word); n != c.want {
			t.Errorf("%v: it is %v: %v costs %d and must cost %d", c.f, g, c.word, n, c.want)
		}
	}
}

// wordsOf has the words that can be, as texts, each once, and so all that they begin with. (No more than some thousand ways may be.)
func wordsOf(f api.Fst) (whole, beginnings []string) {
	var on func(state int, word []int)
	on = func(state int, word []int) {
		if f.Final[state] != api.None {
			whole = append(whole, fmt.Sprint(word))
			for n := range len(word) + 1 {
				beginnings = append(beginnings, fmt.Sprint(word[:n]))
			}
		}
		for _, a := range f.Arcs {
			if a.From == state {
				on(a.To, append(slices.Clone(word), a.In))
			}
		}
	}
	on(f.Start, nil)
	slices.Sort(whole)
	slices.Sort(beginnings)
	return slices.Compact(whole), slices.Compact(beginnings)
}

// G1, G2: many, held against what they cost, and against their beginnings, gone through one by one.
func TestDetermineOfMany(t *testing.T) {
	d := draw(3)
	refused, taken := 0, 0
	for range 2000 {
		states := 1 + d.below(10)
		f := d.acceptor(states, 2, 1+d.below(4), 1+d.below(9))
		_, beginnings := wordsOf(f)
		g, e := Determine(f)
		if len(beginnings) > api.MaxStates {
			refused++
			if e != api.ErrMany || !same(g, api.Fst{}) {
				t.Fatalf("%v has %d beginnings: it is %v, %d", f, len(beginnings), g, e)
			}
			continue
		}
		taken++
		if e != api.OK {
			t.Fatalf("%v has %d beginnings: it is %v, %d", f, len(beginnings), g, e)
		}
		right(t, f, g, words(min(states, 6), 2))
		if g.States > max(len(beginnings), 1) {
			t.Fatalf("%v: it is %v, and has more states than %d beginnings", f, g, len(beginnings))
		}
	}
	if refused < 20 || taken < 1000 {
		t.Errorf("%d are refused and %d taken: too few to tell", refused, taken)
	}
}
