package compose

import (
	"math"
	"slices"
	"testing"

	"fareway/api"
	"fareway/fst"
	"fareway/score"
)

// cost of a pair of words.
func cost(t *testing.T, f api.Fst, in, out []int) int {
	t.Helper()
	n, e := score.Score(f, in, out)
	if e != api.OK {
		t.Fatalf("%v %v %v: %d", f, in, out, e)
	}
	return n
}

// through what it costs by a word between; None, if one of both can't.
func through(t *testing.T, f, g api.Fst, in, between, out []int) int {
	t.Helper()
	a, b := cost(t, f, in, between), cost(t, g, between, out)
	if a == api.None || b == api.None {
		return api.None
	}
	return a + b
}

// words of at most so many letters, each of them 1 or 2.
func words(most int) [][]int {
	l := [][]int{nil}
	for i := 0; i < len(l); i++ {
		if len(l[i]) < most {
			l = append(l, append(slices.Clone(l[i]), 1), append(slices.Clone(l[i]), 2))
		}
	}
	return l
}

// composed: what Compose answers, which must be right.
func composed(t *testing.T, f, g api.Fst) api.Fst {
	t.Helper()
	h, e := Compose(f, g)
	if e != api.OK || fst.Check(h) != api.OK {
		t.Fatalf("%v, %v: it is %v, %d", f, g, h, e)
	}
	return h
}

// D1 and example 4, worked out by hand.
func TestComposeByHand(t *testing.T) {
	back := api.Fst{States: 2, Final: []int{api.None, 1}, Arcs: []api.Arc{arc(0, 2, 1, 1, 5)}}
	// Reads 1 and writes it once, twice or not at all.
	some := api.Fst{States: 2, Final: []int{0, api.None}, Arcs: []api.Arc{arc(0, 1, 0, 0, 7), arc(0, 1, 1, 0, 1), arc(0, 1, 1, 1, 1), arc(1, 0, 1, 0, 1)}}
	// Reads 1 and writes 3; writes 4 ahead of that, and 5 behind it, without reading.
	around := api.Fst{States: 3, Final: []int{api.None, api.None, 2}, Arcs: []api.Arc{arc(0, 0, 4, 1, 10), arc(1, 1, 3, 2, 20), arc(2, 0, 5, 2, 30)}}
	// Writes 1 or 2 for the same letter, the dearer one ahead; reads both, the other one dearer.
	fork := api.Fst{States: 1, Final: []int{0}, Arcs: []api.Arc{arc(0, 1, 1, 0, 5), arc(0, 1, 2, 0, 3)}}
	merge := api.Fst{States: 1, Final: []int{0}, Arcs: []api.Arc{arc(0, 1, 9, 0, 1), arc(0, 2, 9, 0, 4)}}
	for _, c := range []struct {
		f, g    api.Fst
		in, out []int
		want    int
	}{
		{one(), back, []int{1}, []int{1}, 12},
		{one(), back, nil, nil, api.None},
		{one(), back, []int{1, 1}, []int{1, 1}, api.None},
		{one(), one(), []int{1}, []int{2}, api.None},
		{back, one(), []int{2}, []int{2}, 12},
		{some, around, []int{1}, []int{4, 3}, 33},
		{some, around, []int{1, 1}, []int{4, 3, 5}, 70},
		{some, around, nil, []int{4, 3}, api.None},
		{around, some, []int{1}, nil, api.None},
		{some, some, []int{1}, []int{1, 1, 1, 1}, 6},
		{some, some, []int{1}, []int{1, 1, 1}, 5},
		{some, some, []int{1}, nil, 7},
		{some, some, []int{1, 1}, nil, 14},
		{some, some, []int{1, 1}, []int{1}, 9},
		{some, some, nil, nil, 0},
		{some, some, nil, []int{1}, api.None},
		{fork, merge, []int{1}, []int{9}, 6},
		{fork, merge, []int{1, 1, 1}, []int{9, 9, 9}, 18},
		{merge, fork, []int{1}, []int{1}, api.None},
		{merge, fork, nil, nil, 0},
	} {
		if n := cost(t, composed(t, c.f, c.g), c.in, c.out); n != c.want {
			t.Errorf("%v, %v: %v %v: it costs %d and must cost %d", c.f, c.g, c.in, c.out, n, c.want)
		}
	}
}

// onward leaves those arcs away that do not lead to a later state: so no way writes more letters than there are states.
func onward(f api.Fst) api.Fst {
	f.Arcs = slices.DeleteFunc(f.Arcs, func(a api.Arc) bool { return a.From >= a.To })
	f.Start = 0
	return f
}

// D1, D2: those without rounds, held against each word that may be between.
func TestComposeThroughEachWord(t *testing.T) {
	d := draw(1)
	can := 0
	for range 400 {
		f, g := onward(d.fst(4, 2, 2+d.below(3))), onward(d.fst(4, 2, 2+d.below(3)))
		h := composed(t, f, g)
		for range 5 {
			in, out := d.word(4, 2), d.word(4, 2)
			want := api.None
			for _, w := range words(3) {
				if n := through(t, f, g, in, w, out); n != api.None && (want == api.None || n < want) {
					want = n
				}
			}
			if n := cost(t, h, in, out); n != want {
				t.Fatalf("%v, %v: %v %v: it costs %d and must cost %d", f, g, in, out, n, want)
			}
			can += min(want+1, 1)
		}
	}
	if can < 300 {
		t.Errorf("only %d can be: too few to tell", can)
	}
}

// where both are, and how many letters are read and written.
type where struct{ p, q, read, written int }

// dull works out in another way what the best of all words between costs: round by round, until nothing gets better.
func dull(f, g api.Fst, in, out []int) int {
	cost := map[where]int{{p: f.Start, q: g.Start}: 0}
	better := false
	pass := func(from, to where, read, written, weight int) {
		n, ok := cost[from]
		if read > 0 {
			ok = ok && from.read < len(in) && in[from.read] == read
			to.read++
		}
		if written > 0 {
			ok = ok && from.written < len(out) && out[from.written] == written
			to.written++
		}
		if was, met := cost[to]; ok && (!met || n+weight < was) {
			cost[to], better = n+weight, true
		}
	}
	for better = true; better; {
		better = false
		for n := range f.States * g.States * (len(in) + 1) * (len(out) + 1) {
			p, n := n%f.States, n/f.States
			q, n := n%g.States, n/g.States
			i, k := n%(len(in)+1), n/(len(in)+1)
			for _, a := range f.Arcs {
				if a.From == p && a.Out == 0 {
					pass(where{p, q, i, k}, where{a.To, q, i, k}, a.In, 0, a.Weight)
				}
				for _, b := range g.Arcs {
					if a.From == p && b.From == q && a.Out == b.In {
						pass(where{p, q, i, k}, where{a.To, b.To, i, k}, a.In, b.Out, a.Weight+b.Weight)
					}
				}
			}
			for _, b := range g.Arcs {
				if b.From == q && b.In == 0 {
					pass(where{p, q, i, k}, where{p, b.To, i, k}, 0, b.Out, b.Weight)
				}
			}
		}
	}
	best := math.MaxInt
	for at, n := range cost {
		if a, b := f.Final[at.p], g.Final[at.q]; a != api.None && b != api.None && at.read == len(in) && at.written == len(out) {
			best = min(best, n+a+b)
		}
	}
	if best == math.MaxInt {
		return api.None
	}
	return best
}

// D1, D2: those with rounds and silent arcs, held against another way; and no word between is better.
func TestComposeOfMany(t *testing.T) {
	d := draw(2)
	can := 0
	for range 1000 {
		f, g := d.fst(1+d.below(3), 2, 2+d.below(7)), d.fst(1+d.below(3), 2, 2+d.below(7))
		h := composed(t, f, g)
		in, out := d.word(4, 2), d.word(4, 2)
		n, want := cost(t, h, in, out), dull(f, g, in, out)
		if n != want {
			t.Fatalf("%v, %v: %v %v: it costs %d and must cost %d", f, g, in, out, n, want)
		}
		for _, w := range words(4) {
			if m := through(t, f, g, in, w, out); m != api.None && (n == api.None || m < n) {
				t.Fatalf("%v, %v: %v %v: it costs %d, and by %v only %d", f, g, in, out, n, w, m)
			}
		}
		can += min(want+1, 1)
	}
	if can < 150 {
		t.Errorf("only %d can be: too few to tell", can)
	}
}

// D1: a word between of many letters, more than either of both words has.
func TestComposeThroughALongWord(t *testing.T) {
	// Writes 1, or reads it, any number of times; ends for 5 at one of each 12.
	ring := func(writes bool, final int) api.Fst {
		f := api.Fst{States: 12}
		for state := range f.States {
			f.Final = append(f.Final, api.None)
			a := arc(state, 0, 1, (state+1)%12, 1)
			if !writes {
				a.In, a.Out = a.Out, a.In
			}
			f.Arcs = append(f.Arcs, a)
		}
		f.Final[final] = 5
		return f
	}
	f, g := ring(true, 7), ring(false, 7)
	g.Arcs = g.Arcs[:11]
	g.Arcs = append(g.Arcs, arc(11, 1, 0, 5, 1)) // a round of 7 behind a run of 5
	if n := cost(t, composed(t, f, g), nil, nil); n != 7+7+10 {
		t.Errorf("it costs %d", n)
	}
	f.Final[7], f.Final[6] = api.None, 5
	// 6 and 12 times some, 7 and 7 times some: 42 letters.
	if n := cost(t, composed(t, f, g), nil, nil); n != 42+42+10 {
		t.Errorf("it costs %d", n)
	}
}
