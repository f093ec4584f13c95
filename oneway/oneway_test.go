package oneway

import (
	"slices"
	"testing"

	"fareway/api"
	"fareway/fst"
	"fareway/score"
)

// draw: numbers that are the same each time.
type draw uint64

func (d *draw) below(n int) int {
	*d = *d*6364136223846793005 + 1442695040888963407
	return int(uint64(*d) >> 33 % uint64(n))
}

// acceptor draws one without silent arcs, which may go round; each state lies on a way to an end.
func (d *draw) acceptor(states, letters, odds int) api.Fst {
	f := api.Fst{States: states, Start: d.below(states)}
	for range states {
		f.Final = append(f.Final, max(d.below(12)-5, api.None))
	}
	for from := range states {
		for letter := 1; letter <= letters; letter++ {
			for to := range states {
				if d.below(odds) == 0 {
					f.Arcs = append(f.Arcs, arc(from, letter, to, d.below(4)))
				}
			}
		}
	}
	f, _ = fst.Trim(f)
	return f
}

func arc(from, letter, to, weight int) api.Arc {
	return api.Arc{From: from, In: letter, Out: letter, To: to, Weight: weight}
}

func itself(costs []int) []int { return costs }

func cost(t *testing.T, f api.Fst, word []int) int {
	t.Helper()
	n, e := score.Score(f, word, word)
	if e != api.OK {
		t.Fatalf("%v %v: %d", f, word, e)
	}
	return n
}

// alike: both pass Check, and cost the same for all words of few letters.
func alike(t *testing.T, f, g api.Fst) {
	t.Helper()
	words := [][]int{nil}
	for i := 0; i < len(words); i++ {
		if is, must := cost(t, g, words[i]), cost(t, f, words[i]); is != must {
			t.Fatalf("%v: it is %v: %v costs %d and must cost %d", f, g, words[i], is, must)
		}
		for letter := 1; letter <= 2 && len(words[i]) < 6; letter++ {
			words = append(words, append(slices.Clone(words[i]), letter))
		}
	}
}

func equal(f, g api.Fst) bool {
	return f.States == g.States && f.Start == g.Start && slices.Equal(f.Final, g.Final) && slices.Equal(f.Arcs, g.Arcs)
}

// oneArc: is there at most one arc from each state by each letter?
func oneArc(f api.Fst) bool {
	for i := 1; i < len(f.Arcs); i++ {
		if f.Arcs[i].From == f.Arcs[i-1].From && f.Arcs[i].In == f.Arcs[i-1].In {
			return false
		}
	}
	return true
}

// One way for each word costs the same, told earlier too, and with states joined that are alike; and so it is the same whatever it was made of.
func TestOfMany(t *testing.T) {
	d := draw(1)
	done, joined := 0, 0
	for range 1000 {
		f := d.acceptor(1+d.below(5), 2, 2+d.below(5))
		g, ok := Subsets(f, 60, itself)
		if !ok {
			continue
		}
		done++
		if !oneArc(g) {
			t.Fatalf("%v: it is %v", f, g)
		}
		alike(t, f, g)
		early := Early(g)
		alike(t, f, early)
		least := Joined(early)
		alike(t, f, least)
		if least.States < g.States {
			joined++
		}
		if again := Joined(Early(least)); !equal(least, again) {
			t.Fatalf("%v: it is %v, and then %v", f, least, again)
		}
	}
	if done < 300 || joined < 50 {
		t.Errorf("%d are done, and %d joined: too few to tell", done, joined)
	}
}

// No more than so many.
func TestMost(t *testing.T) {
	f := api.Fst{States: 5, Final: make([]int, 5)}
	for from := range 4 {
		f.Arcs = append(f.Arcs, arc(from, 9, from+1, 2))
	}
	for most := range 8 {
		g, ok := Subsets(f, most, itself)
		if ok != (most >= 5) || ok && !equal(f, g) || !ok && !equal(g, api.Fst{}) {
			t.Errorf("of %d it is %v, %v", most, g, ok)
		}
	}
}

// One who is at the state 0 is at 1, too, as it were: so all subsets are the same.
func TestAlso(t *testing.T) {
	f := api.Fst{States: 2, Final: []int{0, 0}, Arcs: []api.Arc{arc(0, 1, 0, 0), arc(0, 1, 1, 1), arc(0, 2, 0, 3), arc(1, 1, 1, 0)}}
	two, _ := Subsets(f, 9, itself)
	one, ok := Subsets(f, 9, func(costs []int) []int { return []int{costs[0], costs[0]} })
	want := api.Fst{States: 1, Final: []int{0}, Arcs: []api.Arc{arc(0, 1, 0, 0), arc(0, 2, 0, 3)}}
	if two.States != 2 || !ok || !equal(one, want) {
		t.Errorf("it is %v, and with those %v, %v", two, one, ok)
	}
}

func TestEarly(t *testing.T) {
	none := api.None
	for _, c := range []struct{ f, want api.Fst }{
		// No word can be.
		{api.Fst{States: 1, Final: []int{none}}, api.Fst{States: 1, Final: []int{none}}},
		{api.Fst{States: 2, Final: []int{none, none}, Arcs: []api.Arc{arc(0, 1, 1, 3)}}, api.Fst{States: 2, Final: []int{none, none}, Arcs: []api.Arc{arc(0, 1, 1, 3)}}},
		{api.Fst{States: 1, Final: []int{7}}, api.Fst{States: 1, Final: []int{7}}},
		{
			api.Fst{States: 3, Start: 2, Final: []int{4, 9, none}, Arcs: []api.Arc{arc(0, 1, 1, 1), arc(2, 1, 0, 2)}},
			api.Fst{States: 3, Start: 2, Final: []int{0, 0, none}, Arcs: []api.Arc{arc(0, 1, 1, 6), arc(2, 1, 0, 6)}},
		},
		// From the state 1 it leads back to the start for less than all words cost, so that not all of it can be told ahead of that.
		{
			api.Fst{States: 2, Final: []int{none, 5}, Arcs: []api.Arc{arc(0, 1, 1, 0), arc(1, 1, 0, 2)}},
			api.Fst{States: 2, Final: []int{none, 3}, Arcs: []api.Arc{arc(0, 1, 1, 2), arc(1, 1, 0, 0)}},
		},
		{
			api.Fst{States: 2, Final: []int{5, 0}, Arcs: []api.Arc{arc(0, 1, 1, 9), arc(1, 1, 0, 2)}},
			api.Fst{States: 2, Final: []int{5, 0}, Arcs: []api.Arc{arc(0, 1, 1, 9), arc(1, 1, 0, 2)}},
		},
		{
			api.Fst{States: 2, Final: []int{5, 6}, Arcs: []api.Arc{arc(0, 1, 1, 2), arc(1, 1, 0, 1)}},
			api.Fst{States: 2, Final: []int{5, 5}, Arcs: []api.Arc{arc(0, 1, 1, 3), arc(1, 1, 0, 0)}},
		},
	} {
		g := Early(c.f)
		alike(t, c.f, g)
		if !equal(g, c.want) {
			t.Errorf("%v: it is %v and must be %v", c.f, g, c.want)
		}
	}
}

// States that are alike are one, round about too; they are numbered level by level.
func TestJoined(t *testing.T) {
	none := api.None
	for _, c := range []struct{ f, want api.Fst }{
		{api.Fst{States: 1, Final: []int{none}}, api.Fst{States: 1, Final: []int{none}}},
		// What can't be come to is left out.
		{api.Fst{States: 3, Start: 1, Final: []int{1, 2, 3}}, api.Fst{States: 1, Final: []int{2}}},
		{
			api.Fst{States: 3, Start: 2, Final: []int{4, 4, 4}, Arcs: []api.Arc{arc(0, 1, 1, 3), arc(1, 1, 2, 3), arc(2, 1, 0, 3)}},
			api.Fst{States: 1, Final: []int{4}, Arcs: []api.Arc{arc(0, 1, 0, 3)}},
		},
		{
			api.Fst{States: 3, Start: 2, Final: []int{4, 4, 4}, Arcs: []api.Arc{arc(0, 1, 1, 3), arc(1, 1, 2, 3), arc(2, 1, 0, 2)}},
			api.Fst{States: 3, Final: []int{4, 4, 4}, Arcs: []api.Arc{arc(0, 1, 1, 2), arc(1, 1, 2, 3), arc(2, 1, 0, 3)}},
		},
		{
			api.Fst{States: 5, Start: 4, Final: []int{0, none, none, none, none}, Arcs: []api.Arc{arc(1, 9, 0, 1), arc(2, 8, 0, 1), arc(3, 9, 0, 1), arc(4, 1, 2, 0), arc(4, 2, 3, 0), arc(4, 3, 1, 0)}},
			api.Fst{States: 4, Final: []int{none, none, none, 0}, Arcs: []api.Arc{arc(0, 1, 1, 0), arc(0, 2, 2, 0), arc(0, 3, 2, 0), arc(1, 8, 3, 1), arc(2, 9, 3, 1)}},
		},
	} {
		if g := Joined(c.f); !equal(g, c.want) {
			t.Errorf("%v: it is %v and must be %v", c.f, g, c.want)
		}
	}
}

// What is handed in is only read.
func TestMemory(t *testing.T) {
	d := draw(2)
	for range 200 {
		f := d.acceptor(1+d.below(4), 2, 2)
		final, arcs := slices.Clone(f.Final), slices.Clone(f.Arcs)
		Subsets(f, 9, itself)
		Early(f)
		Joined(f)
		if !slices.Equal(final, f.Final) || !slices.Equal(arcs, f.Arcs) {
			t.Fatalf("%v was changed", f)
		}
	}
}
