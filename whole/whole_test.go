// Package whole: what the layers promise together, line by line of the document's section 'What the whole promises'.
package whole

import (
	"reflect"
	"slices"
	"testing"

	"fareway/api"
	"fareway/compose"
	"fareway/determine"
	"fareway/fst"
	"fareway/least"
	"fareway/order"
	"fareway/plain"
	"fareway/score"
	"fareway/short"
	"fareway/simple"
)

// draw: numbers that are the same each time.
type draw uint64

func (d *draw) below(n int) int {
	*d = *d*6364136223846793005 + 1442695040888963407
	return int(uint64(*d) >> 33 % uint64(n))
}

// fst draws a transducer of few states and two letters: some arcs, from where to where ends tells; letters tells what an arc reads and writes.
func (d *draw) fst(states, arcs int, ends, letters func() (int, int)) api.Fst {
	f := api.Fst{States: states, Start: d.below(states)}
	for range states {
		f.Final = append(f.Final, max(d.below(10)-5, api.None))
	}
	for range arcs {
		a := api.Arc{Weight: d.below(6)}
		a.From, a.To = ends()
		a.In, a.Out = letters()
		f.Arcs = append(f.Arcs, a)
	}
	f.Arcs = order.Least(f.Arcs)
	return f
}

// any draws a transducer, which may go round, be silent and change letters.
func (d *draw) any() api.Fst {
	n := 1 + d.below(4)
	return d.fst(n, d.below(3*n), func() (int, int) { return d.below(n), d.below(n) }, func() (int, int) { return d.below(3), d.below(3) })
}

// acceptor draws one that may go round and be silent.
func (d *draw) acceptor() api.Fst {
	n := 1 + d.below(5)
	return d.fst(n, d.below(4*n), func() (int, int) { return d.below(n), d.below(n) }, func() (int, int) { l := d.below(3); return l, l })
}

// straight draws an acceptor without silent arcs that does not go round, and begins at its first state.
func (d *draw) straight() api.Fst {
	n := 2 + d.below(4)
	f := d.fst(n, d.below(4*n), func() (int, int) { to := 1 + d.below(n-1); return d.below(to), to }, func() (int, int) { l := 1 + d.below(2); return l, l })
	f.Start = 0
	return f
}

// words of at most n letters, which are 1 and 2.
func words(n int) [][]int {
	l := [][]int{nil}
	for i := 0; i < len(l) && len(l[i]) < n; i++ {
		l = append(l, append(slices.Clone(l[i]), 1), append(slices.Clone(l[i]), 2))
	}
	return l
}

func cost(t *testing.T, f api.Fst, in, out []int) int {
	t.Helper()
	n, e := score.Score(f, in, out)
	if e != api.OK {
		t.Fatalf("%v: %d", f, e)
	}
	return n
}

// plus is the sum of two prices, cheaper the better one of them; None, if it can't be.
func plus(a, b int) int {
	if a == api.None || b == api.None {
		return api.None
	}
	return a + b
}

func cheaper(a, b int) int {
	if a == api.None || b != api.None && b < a {
		return b
	}
	return a
}

func ok(t *testing.T, l ...api.Errno) {
	t.Helper()
	for _, e := range l {
		if e != api.OK {
			t.Fatalf("it is %v and must be no error", l)
		}
	}
}

// What is printed is parsed as it was, and nothing else is.
func TestPrintedAndParsed(t *testing.T) {
	d := draw(1)
	parsed := 0
	for range 1000 {
		f := d.any()
		s, e := fst.Print(f)
		g, line, h := fst.Parse(s)
		ok(t, e, h)
		if line != 0 || g.States != f.States || g.Start != f.Start || !slices.Equal(g.Final, f.Final) || !slices.Equal(g.Arcs, f.Arcs) {
			t.Fatalf("%v, printed %q and parsed: it is %v", f, s, g)
		}
		b := []byte(s)
		b[d.below(len(b))] = "0123456789 \nsf"[d.below(14)]
		g, _, h = fst.Parse(string(b))
		if h != api.OK {
			continue
		}
		parsed++
		if again, e := fst.Print(g); e != api.OK || again != string(b) {
			t.Fatalf("%q is parsed, but it is printed %q, %d", b, again, e)
		}
	}
	if parsed < 100 || parsed > 900 {
		t.Errorf("%d are parsed: too few, or too many, to tell", parsed)
	}
}

// A walk reads and writes the words and costs what is told.
func TestWalks(t *testing.T) {
	d := draw(2)
	can := 0
	for range 300 {
		f := d.any()
		for _, in := range words(2) {
			for _, out := range words(2) {
				way, told, e := score.Walk(f, in, out)
				ok(t, e)
				if told != cost(t, f, in, out) || told == api.None && len(way) > 0 {
					t.Fatalf("%v: %v, %v: it is %v for %d", f, in, out, way, told)
				}
				if told == api.None {
					continue
				}
				can++
				at, paid := f.Start, 0
				var reads, writes []int
				for _, n := range way {
					a := f.Arcs[n]
					if a.From != at {
						t.Fatalf("%v: %v does not lead on", f, way)
					}
					at, paid = a.To, paid+a.Weight
					reads, writes = append(reads, a.In), append(writes, a.Out)
				}
				nothing := func(letter int) bool { return letter == 0 }
				reads, writes = slices.DeleteFunc(reads, nothing), slices.DeleteFunc(writes, nothing)
				if !slices.Equal(reads, in) || !slices.Equal(writes, out) || plus(paid, f.Final[at]) != told {
					t.Fatalf("%v: %v, %v: %v for %d is none", f, in, out, way, told)
				}
			}
		}
	}
	if can < 500 {
		t.Errorf("only %d can be: too few to tell", can)
	}
}

// parts has all that can be ahead in a word, with what is left of it.
func parts(word []int) [][2][]int {
	var l [][2][]int
	for n := range len(word) + 1 {
		l = append(l, [2][]int{word[:n], word[n:]})
	}
	return l
}

// behind is what two words cost by f and then by g.
func behind(t *testing.T, f, g api.Fst, in, out []int) int {
	best := api.None
	for _, a := range parts(in) {
		for _, b := range parts(out) {
			best = cheaper(best, plus(cost(t, f, a[0], b[0]), cost(t, g, a[1], b[1])))
		}
	}
	return best
}

// What is joined costs what the pieces do.
func TestJoined(t *testing.T) {
	d := draw(3)
	for range 150 {
		f, g := d.any(), d.any()
		either, e := simple.Either(f, g)
		both, h := simple.Behind(f, g)
		again, i := simple.Again(f)
		ok(t, e, h, i)
		for _, in := range words(2) {
			for _, out := range words(2) {
				if is, must := cost(t, either, in, out), cheaper(cost(t, f, in, out), cost(t, g, in, out)); is != must {
					t.Fatalf("%v or %v: %v, %v cost %d and must cost %d", f, g, in, out, is, must)
				}
				if is, must := cost(t, both, in, out), behind(t, f, g, in, out); is != must {
					t.Fatalf("%v, then %v: %v, %v cost %d and must cost %d", f, g, in, out, is, must)
				}
				// Again is nothing, or once, and again behind that.
				must := behind(t, f, again, in, out)
				if len(in)+len(out) == 0 {
					must = 0
				}
				if is := cost(t, again, in, out); is != must {
					t.Fatalf("%v again: %v, %v cost %d and must cost %d", f, in, out, is, must)
				}
			}
		}
	}
}

// What is one behind the other costs the best of all words between.
func TestBestBetween(t *testing.T) {
	d := draw(4)
	can := 0
	for range 150 {
		// They do not go round, so that words between are short.
		one := func() api.Fst {
			n := 2 + d.below(3)
			f := d.fst(n, 3*n, func() (int, int) { to := 1 + d.below(n-1); return d.below(to), to }, func() (int, int) { return d.below(3), d.below(3) })
			f.Start = 0
			return f
		}
		f, g := one(), one()
		h, e := compose.Compose(f, g)
		ok(t, e)
		for _, in := range words(2) {
			for _, out := range words(2) {
				must := api.None
				for _, between := range words(3) {
					must = cheaper(must, plus(cost(t, f, in, between), cost(t, g, between, out)))
				}
				if is := cost(t, h, in, out); is != must {
					t.Fatalf("%v, and behind it %v: %v, %v cost %d and must cost %d", f, g, in, out, is, must)
				}
				can += min(must+1, 1)
			}
		}
	}
	if can < 200 {
		t.Errorf("only %d can be: too few to tell", can)
	}
}

// Without silent arcs it costs the same.
func TestWithoutSilentArcs(t *testing.T) {
	d := draw(5)
	for range 500 {
		f := d.acceptor()
		g, e := plain.Plain(f)
		ok(t, e)
		if slices.ContainsFunc(g.Arcs, func(a api.Arc) bool { return a.In == 0 }) {
			t.Fatalf("%v: it is %v, with silent arcs", f, g)
		}
		for _, w := range words(4) {
			if is, must := cost(t, g, w, w), cost(t, f, w, w); is != must {
				t.Fatalf("%v: it is %v: %v costs %d and must cost %d", f, g, w, is, must)
			}
		}
	}
}

// Pushed, with what is told, it costs the same, too.
func TestPushed(t *testing.T) {
	d := draw(6)
	for range 500 {
		f := d.any()
		g, told, e := short.Push(f)
		ok(t, e)
		for _, in := range words(2) {
			for _, out := range words(2) {
				if is, must := plus(cost(t, g, in, out), told), cost(t, f, in, out); is != must {
					t.Fatalf("%v: it is %v and %d: %v, %v cost %d and must cost %d", f, g, told, in, out, is, must)
				}
			}
		}
	}
}

// With one way for each word it costs the same, too.
func TestOneWay(t *testing.T) {
	d := draw(7)
	for range 500 {
		f := d.straight()
		g, e := determine.Determine(f)
		is, h := determine.Is(g)
		ok(t, e, h)
		if !is {
			t.Fatalf("%v: it is %v", f, g)
		}
		for _, w := range words(5) {
			if is, must := cost(t, g, w, w), cost(t, f, w, w); is != must {
				t.Fatalf("%v: it is %v: %v costs %d and must cost %d", f, g, w, is, must)
			}
		}
	}
}

// The least of the least is itself; two are the same just if their least ones are.
func TestLeast(t *testing.T) {
	d := draw(8)
	can := 0
	for range 2000 {
		f, g := d.straight(), d.straight()
		if d.below(2) == 0 {
			// One that costs the same, but for one arc at most.
			g, _ = determine.Determine(f)
			if len(g.Arcs) > 0 {
				g.Arcs[d.below(len(g.Arcs))].Weight += d.below(2)
			}
		}
		first, e := least.Least(f)
		ok(t, e)
		if first.States > api.MaxLeast || g.States > api.MaxLeast {
			continue // The least one may not be asked of it.
		}
		again, h := least.Least(first)
		ok(t, h)
		if !reflect.DeepEqual(first, again) {
			t.Fatalf("%v: the least one is %v, and of that %v", f, first, again)
		}
		second, e := least.Least(g)
		same, h := least.Same(f, g)
		ok(t, e, h)
		must := true
		for _, w := range words(5) {
			must = must && cost(t, f, w, w) == cost(t, g, w, w)
		}
		if same != must || reflect.DeepEqual(first, second) != must {
			t.Fatalf("%v and %v: it is %v and must be %v; the least ones are %v and %v", f, g, same, must, first, second)
		}
		if must {
			can++
		}
	}
	if can < 300 || can > 1700 {
		t.Errorf("%d are the same: too few, or too many, to tell", can)
	}
}
