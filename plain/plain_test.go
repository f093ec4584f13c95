package plain

import (
	"slices"
	"testing"

	"fareway/api"
	"fareway/fst"
	"fareway/score"
)

// cost of a word twice.
func cost(t *testing.T, f api.Fst, word []int) int {
	t.Helper()
	n, e := score.Score(f, word, word)
	if e != api.OK {
		t.Fatalf("%v %v: %d", f, word, e)
	}
	return n
}

// right: it passes Check, has no more states, is an acceptor without silent arcs, and costs the same for each of the words.
func right(t *testing.T, f, g api.Fst, words [][]int) {
	t.Helper()
	if e := fst.Check(g); e != api.OK || g.States > f.States {
		t.Fatalf("%v: it is %v, of which Check says %d", f, g, e)
	}
	if slices.ContainsFunc(g.Arcs, func(a api.Arc) bool { return a.In != a.Out || a.In == 0 }) {
		t.Fatalf("%v: it is %v, with arcs that are silent, or change something", f, g)
	}
	for _, w := range words {
		if is, must := cost(t, g, w), cost(t, f, w); is != must {
			t.Fatalf("%v: it is %v: %v costs %d and must cost %d", f, g, w, is, must)
		}
	}
}

// made is what Plain makes, which must be no error.
func made(t *testing.T, f api.Fst) api.Fst {
	t.Helper()
	g, e := Plain(f)
	if e != api.OK {
		t.Fatalf("%v: it is %v, %d", f, g, e)
	}
	return g
}

// E1: Acceptor.
func TestAcceptor(t *testing.T) {
	changes := func(in, out int) api.Fst {
		f := hushed()
		f.Arcs = append(f.Arcs, arc(0, 1, 0, 0), api.Arc{From: 1, In: in, Out: out, To: 0})
		return f
	}
	for _, c := range []struct {
		f    api.Fst
		want bool
	}{
		{api.Fst{States: 1, Final: []int{api.None}}, true},
		{api.Fst{States: 200, Final: make([]int, 200)}, true},
		{hushed(), true},
		{changes(0, 0), true},
		{changes(9, 9), true},
		{changes(1, 2), false},
		{changes(2, 1), false},
		{changes(0, 1), false},
		{changes(1, 0), false},
		{api.Fst{States: 1, Final: []int{0}, Arcs: []api.Arc{{In: 1, Out: 2}, {In: 2, Out: 2}}}, false},
	} {
		if is, e := Acceptor(c.f); is != c.want || e != api.OK {
			t.Errorf("%v: it is %v, %d and must be %v", c.f, is, e, c.want)
		}
	}
}

// E1 and example 5.
func TestPlainByHand(t *testing.T) {
	none := api.None
	for _, c := range []struct {
		f    api.Fst
		word []int
		want int
	}{
		{hushed(), nil, 6},
		{hushed(), []int{1}, none},
		{api.Fst{States: 1, Final: []int{none}}, nil, none},
		{api.Fst{States: 1, Final: []int{7}, Arcs: []api.Arc{arc(0, 0, 0, 3)}}, nil, 7},
		// Silent arcs ahead of a letter, between two, and behind the last one.
		{api.Fst{States: 6, Final: []int{none, none, none, none, none, 1}, Arcs: []api.Arc{arc(0, 0, 1, 1), arc(1, 1, 2, 2), arc(2, 0, 3, 3), arc(3, 2, 4, 4), arc(4, 0, 5, 5)}}, []int{1, 2}, 16},
		// To end by a silent arc is better than at once, and by two than by one.
		{api.Fst{States: 3, Final: []int{20, 9, 1}, Arcs: []api.Arc{arc(0, 0, 1, 2), arc(0, 0, 2, 9), arc(1, 0, 2, 3)}}, nil, 6},
		// Silent arcs lead round, for nothing and not, back to where it begins too.
		{api.Fst{States: 3, Start: 1, Final: []int{none, none, 4}, Arcs: []api.Arc{arc(0, 0, 0, 1), arc(0, 0, 1, 0), arc(0, 1, 0, 1), arc(1, 0, 0, 0), arc(1, 0, 2, 1), arc(2, 0, 1, 0)}}, []int{1, 1}, 7},
		// The dearer one of two arcs by a letter is the better one, as behind it less is to pay.
		{api.Fst{States: 4, Final: []int{none, none, none, 0}, Arcs: []api.Arc{arc(0, 1, 1, 1), arc(0, 1, 2, 3), arc(1, 0, 2, 5), arc(2, 2, 3, 0)}}, []int{1, 2}, 3},
	} {
		g := made(t, c.f)
		right(t, c.f, g, words(3, 2))
		if n := cost(t, g, c.word); n != c.want {
			t.Errorf("%v: it is %v: %v costs %d and must cost %d", c.f, g, c.word, n, c.want)
		}
	}
}

// E1, E2: many, held against what they cost, in whichever way they are made.
func TestPlainOfMany(t *testing.T) {
	d := draw(1)
	short := words(4, 2)
	can := 0
	for range 1500 {
		f := d.acceptor(1+d.below(6), 2, 3+d.below(12), 2+d.below(10), 1+d.below(12))
		right(t, f, made(t, f), short)
		s := stridesOf(f)
		for i, made := range s.made() {
			// One way for each word may need more states, or not be found.
			if g := made(); i < len(s.made())-1 || g.States > 0 && g.States <= f.States {
				right(t, f, g, short)
			}
		}
		for _, w := range short {
			can += min(cost(t, f, w)+1, 1)
		}
	}
	if can < 5000 {
		t.Errorf("only %d can be: too few to tell", can)
	}
}

// E1: as many states as may be, and all letters.
func TestPlainOfLarge(t *testing.T) {
	d := draw(2)
	for _, c := range []struct{ odds, hush, dear int }{{100, 40, 50}, {60, 20, 3}, {30, 30, 20}, {10, 200, 1000}, {4, 10, 4}} {
		for range 4 {
			f := d.acceptor(mostStates, api.MaxLetter, c.odds, c.hush, c.dear)
			if len(f.Arcs) > api.MaxArcs {
				t.Fatalf("%d arcs are too many", len(f.Arcs))
			}
			l := [][]int{nil}
			for range 30 {
				l = append(l, d.word(8, api.MaxLetter))
			}
			right(t, f, made(t, f), l)
		}
	}
}

// E1: a word of as many letters as may be.
func TestLongWord(t *testing.T) {
	f := api.Fst{States: 2, Final: []int{api.None, 2}, Arcs: []api.Arc{arc(0, 0, 1, 3), arc(1, 1, 0, 4)}}
	if n := cost(t, made(t, f), slices.Repeat([]int{1}, api.MaxWord)); n != 7*api.MaxWord+5 {
		t.Errorf("it costs %d", n)
	}
}
