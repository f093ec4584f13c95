package score

import (
	"math"
	"testing"

	"fareway/api"
	"fareway/fst"
)

// B1: right words, wrong ones, and the edges.
func TestWord(t *testing.T) {
	for _, c := range []struct {
		word []int
		want api.Errno
	}{
		{nil, api.OK},
		{[]int{}, api.OK},
		{[]int{1, 9, 5}, api.OK},
		{[]int{0}, api.ErrRange},
		{[]int{10}, api.ErrRange},
		{[]int{1, 2, -1}, api.ErrRange},
		{[]int{math.MaxInt}, api.ErrRange},
		{[]int{math.MinInt}, api.ErrRange},
		{again(9, 40), api.OK},
		{append(again(9, 39), 0), api.ErrRange},
		{again(9, 41), api.ErrMany},
		{again(0, 41), api.ErrMany},
	} {
		if e := Word(c.word); e != c.want {
			t.Errorf("%v: it is %d and must be %d", c.word, e, c.want)
		}
	}
}

// one is the transducer of the document's examples: it reads 1 and writes 2 for 5, and ends for 1.
func one() api.Fst {
	return api.Fst{States: 2, Final: []int{api.None, 1}, Arcs: []api.Arc{arc(0, 1, 2, 1, 5)}}
}

// B1, B2 and example 2: what it costs, worked out by hand.
func TestScoreByHand(t *testing.T) {
	// The straight way costs more than the one along silent arcs, and ending at once more than ending elsewhere.
	silent := api.Fst{States: 3, Final: []int{9, 4, 0}, Arcs: []api.Arc{arc(0, 0, 0, 1, 2), arc(0, 0, 0, 2, 9), arc(0, 1, 1, 2, 8), arc(1, 0, 0, 2, 3), arc(1, 1, 1, 1, 1), arc(2, 0, 0, 0, 0)}}
	// Reads without writing, writes without reading.
	apart := api.Fst{States: 1, Final: []int{1}, Arcs: []api.Arc{arc(0, 0, 2, 0, 10), arc(0, 1, 0, 0, 100), arc(0, 1, 2, 0, 105)}}
	for _, c := range []struct {
		f       api.Fst
		in, out []int
		want    int
	}{
		{one(), []int{1}, []int{2}, 6},
		{one(), nil, nil, api.None},
		{one(), []int{1}, nil, api.None},
		{one(), nil, []int{2}, api.None},
		{one(), []int{2}, []int{1}, api.None},
		{one(), []int{1, 1}, []int{2, 2}, api.None},
		{api.Fst{States: 1, Final: []int{api.None}}, nil, nil, api.None},
		{api.Fst{States: 1, Final: []int{0}}, nil, nil, 0},
		{api.Fst{States: 1, Final: []int{7}}, []int{}, []int{}, 7},
		{api.Fst{States: 1, Final: []int{7}}, []int{1}, []int{}, api.None},
		{silent, nil, nil, 5},
		{silent, []int{1}, []int{1}, 6},
		{silent, []int{1, 1, 1}, []int{1, 1, 1}, 8},
		{apart, []int{1, 1}, nil, 201},
		{apart, nil, []int{2, 2}, 21},
		{apart, []int{1}, []int{2, 2}, 116},
		{apart, []int{1, 1}, []int{2}, 206},
		{apart, []int{1, 2}, []int{2}, api.None},
	} {
		if n, e := Score(c.f, c.in, c.out); n != c.want || e != api.OK {
			t.Errorf("%v %v %v: it is %d, %d and must be %d", c.f, c.in, c.out, n, e, c.want)
		}
		hold(t, c.f, c.in, c.out, c.want)
	}
}

// hold Walk's answer against B2 and B3: from Start along arcs, by the words, for what it must cost, and not too long.
func hold(t *testing.T, f api.Fst, in, out []int, want int) {
	t.Helper()
	way, cost, e := Walk(f, in, out)
	if cost != want || e != api.OK {
		t.Fatalf("%v %v %v: the walk is %v, %d, %d and must cost %d", f, in, out, way, cost, e, want)
	}
	if want == api.None {
		if len(way) > 0 {
			t.Fatalf("%v %v %v: there is no walk, and it is %v", f, in, out, way)
		}
		return
	}
	if len(way) > f.States*(1+len(in)+len(out)) {
		t.Fatalf("%v %v %v: the walk has %d arcs", f, in, out, len(way))
	}
	at, sum := f.Start, 0
	var read, written []int
	for _, n := range way {
		if n < 0 || n >= len(f.Arcs) || f.Arcs[n].From != at {
			t.Fatalf("%v %v %v: the walk %v can't go along %d", f, in, out, way, n)
		}
		a := f.Arcs[n]
		at, sum = a.To, sum+a.Weight
		read, written = put(read, a.In), put(written, a.Out)
	}
	if f.Final[at] == api.None || sum+f.Final[at] != cost || !equal(read, in) || !equal(written, out) {
		t.Fatalf("%v: the walk %v reads %v and writes %v for %d, and %v, %v and %d were told", f, way, read, written, sum, in, out, cost)
	}
}

func put(word []int, letter int) []int {
	if letter == 0 {
		return word
	}
	return append(word, letter)
}

func equal(a, b []int) bool {
	for i := range min(len(a), len(b)) {
		if a[i] != b[i] {
			return false
		}
	}
	return len(a) == len(b)
}

// dull works out what a pair costs in another way: round by round over all arcs and spots, until nothing gets better.
func dull(f api.Fst, in, out []int) int {
	const far = math.MaxInt / 2
	cost := map[spot]int{}
	for state := range f.States {
		for i := range len(in) + 1 {
			for j := range len(out) + 1 {
				cost[spot{state, i, j}] = far
			}
		}
	}
	cost[spot{state: f.Start}] = 0
	for better := true; better; {
		better = false
		for _, a := range f.Arcs {
			for i := range len(in) + 1 {
				for j := range len(out) + 1 {
					if a.In > 0 && (i == len(in) || in[i] != a.In) || a.Out > 0 && (j == len(out) || out[j] != a.Out) {
						continue
					}
					to := spot{a.To, i + min(a.In, 1), j + min(a.Out, 1)}
					if n := cost[spot{a.From, i, j}] + a.Weight; n < cost[to] {
						cost[to], better = n, true
					}
				}
			}
		}
	}
	best := far
	for state, w := range f.Final {
		if w != api.None {
			best = min(best, w+cost[spot{state, len(in), len(out)}])
		}
	}
	if best >= far {
		return api.None
	}
	return best
}

// B1 to B3: many, held against another way; and what is trimmed costs the same.
func TestScoreOfMany(t *testing.T) {
	d := draw(1)
	can := 0
	for range 4000 {
		letters := 1 + d.below(2)
		f := d.fst(1+d.below(5), letters, 2+d.below(12))
		in, out := d.word(5, letters), d.word(5, letters)
		want := dull(f, in, out)
		if n, e := Score(f, in, out); n != want || e != api.OK {
			t.Fatalf("%v %v %v: it is %d, %d and must be %d", f, in, out, n, e, want)
		}
		hold(t, f, in, out, want)
		g, _ := fst.Trim(f)
		if n, e := Score(g, in, out); n != want || e != api.OK {
			t.Fatalf("%v %v %v: trimmed it is %d, %d and must be %d", f, in, out, n, e, want)
		}
		if want != api.None {
			can++
		}
	}
	if can < 500 {
		t.Errorf("only %d can be: too few to tell", can)
	}
}

// B2: rounds of arcs that cost nothing are not gone through again and again.
func TestRoundsForNothing(t *testing.T) {
	f := api.Fst{States: 3, Final: []int{api.None, api.None, 0}, Arcs: []api.Arc{
		arc(0, 0, 0, 0, 0), arc(0, 0, 0, 1, 0), arc(0, 1, 0, 1, 0), arc(1, 0, 0, 0, 0), arc(1, 0, 0, 2, 0), arc(1, 0, 1, 0, 0), arc(2, 0, 0, 0, 0), arc(2, 0, 0, 2, 0),
	}}
	for n := range 10 {
		for m := range 10 {
			hold(t, f, again(1, n), again(1, m), 0)
		}
	}
}

// B1, B2: as many states and letters as may be, and as much as may be to pay: it does not come round to lesser numbers.
func TestScoreOfTheGreatest(t *testing.T) {
	f := api.Fst{States: api.MaxStates}
	last := api.MaxStates - 1
	for state := range f.States {
		f.Final = append(f.Final, api.None)
		if state < last {
			f.Arcs = append(f.Arcs, arc(state, 0, 0, state+1, api.MaxWeight))
		}
	}
	f.Final[last] = api.MaxWeight
	f.Arcs = append(f.Arcs, arc(last, 0, 8, 0, api.MaxWeight), arc(last, 9, 0, 0, api.MaxWeight))
	hold(t, f, again(9, 40), again(8, 40), api.MaxStates*81*api.MaxWeight)
	hold(t, f, again(9, 40), again(9, 1), api.None)
}

// dense has states with 15 arcs each, of each kind.
func dense(states int) api.Fst {
	f := api.Fst{States: states}
	for state := range states {
		f.Final = append(f.Final, 1000-state)
		for n := range 15 {
			f.Arcs = append(f.Arcs, arc(state, n/8, n/4%2, (state+1)/4*4%states+n%4, 1+(state*5+n*3)%11))
		}
	}
	return f
}

// B1, B2: many arcs, held against another way; and as many states and letters as may be, held against B2 alone.
func TestScoreOfManyArcs(t *testing.T) {
	for _, n := range []int{0, 1, 5, 12} {
		in, out := again(1, n), again(1, 12-n)
		hold(t, dense(40), in, out, dull(dense(40), in, out))
	}
	f, word := dense(api.MaxStates), again(1, api.MaxWord)
	n, e := Score(f, word, word)
	if n == api.None || e != api.OK {
		t.Fatalf("it is %d, %d", n, e)
	}
	hold(t, f, word, word, n)
}
