package fst

import (
	"math"
	"testing"

	"fareway/api"
)

// P1: no call panics, whatever stands in its numbers; with an error there is nothing else.
func TestNothingPanics(t *testing.T) {
	odd := []int{math.MinInt, -2, -1, 0, 1, 2, 3, 9, 10, 200, 201, api.MaxWeight + 1, math.MaxInt}
	d := draw(6)
	for range 20000 {
		f := good()
		for range 1 + d.below(3) {
			a := &f.Arcs[d.below(len(f.Arcs))]
			*[]*int{&f.States, &f.Start, &f.Final[d.below(3)], &a.From, &a.In, &a.Out, &a.To, &a.Weight}[d.below(8)] = odd[d.below(len(odd))]
		}
		f.Final, f.Arcs = f.Final[:d.below(4)], f.Arcs[:d.below(6)]
		s, e := Print(f)
		g, h := Trim(f)
		if e != Check(f) || h != e || e != api.OK && (s != "" || !same(g, api.Fst{})) {
			t.Fatalf("%v: it is %q, %d; %v, %d", f, s, e, g, h)
		}
	}
}

// P1: texts of any bytes, of the words of the form and others.
func TestParseOfAnything(t *testing.T) {
	words := []string{"states", "start", "final", " ", " ", " ", "\n", "\n", "0", "1", "2", "9999999999", "-", "\x00", "\xff", "\r"}
	d := draw(7)
	for range 20000 {
		s := []string{"", "states 3 start 1\n", "states 2 start 0\nfinal 0 1\n"}[d.below(3)]
		for range d.below(14) {
			s += words[d.below(len(words))]
		}
		f, line, e := Parse(s)
		if e == api.OK {
			if p, _ := Print(f); p != s || line != 0 {
				t.Fatalf("%q is parsed, and printed as %q", s, p)
			}
		} else if !same(f, api.Fst{}) || (e == api.ErrForm) != (line > 0) {
			t.Fatalf("%q: it is %v, %d, %d", s, f, line, e)
		}
	}
}
