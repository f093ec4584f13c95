package fst

import (
	"reflect"
	"strings"
	"testing"

	"fareway/api"
)

// A2 and example 1.
func TestPrint(t *testing.T) {
	for _, c := range []struct {
		f    api.Fst
		want string
	}{
		{api.Fst{States: 1, Final: []int{api.None}}, "states 1 start 0\n"},
		{api.Fst{States: 1, Final: []int{0}, Arcs: []api.Arc{}}, "states 1 start 0\nfinal 0 0\n"},
		{api.Fst{States: 2, Final: []int{api.None, 1}, Arcs: []api.Arc{arc(0, 1, 2, 1, 5)}}, "states 2 start 0\nfinal 1 1\n0 1 2 1 5\n"},
		{good(), "states 3 start 1\nfinal 1 0\nfinal 2 7\n0 0 0 1 0\n0 1 2 2 5\n1 2 0 0 1\n1 2 1 0 4\n1 2 1 2 4\n"},
		{api.Fst{States: 1, Final: []int{api.MaxWeight}, Arcs: []api.Arc{arc(0, 9, 9, 0, api.MaxWeight)}}, "states 1 start 0\nfinal 0 1000000000\n0 9 9 0 1000000000\n"},
	} {
		if s, e := Print(c.f); s != c.want || e != api.OK {
			t.Errorf("%v: it is %q, %d", c.f, s, e)
		}
	}
}

// A1, A2, P1: what Check says is told, and no text.
func TestPrintTellsWhatCheckSays(t *testing.T) {
	for _, f := range wrong() {
		if s, e := Print(f); s != "" || e != Check(f) {
			t.Errorf("%v: it is %q, %d", f, s, e)
		}
	}
}

// wrong has one for each answer of Check.
func wrong() []api.Fst {
	l := []api.Fst{{}, good(), good(), good(), good(), good(), good()}
	l[1].Start = 3
	l[2].Final = nil
	l[3].Final[0] = -2
	l[4].Arcs = make([]api.Arc, api.MaxArcs+1)
	l[5].Arcs[3].To = -1
	l[6].Arcs[3].In = 0
	return l
}

// A2: lines that are not of their form, at the first such line; then what Check says, at 0.
func TestParseTellsWhereTheFormEnds(t *testing.T) {
	const head = "states 3 start 1\n"
	for _, c := range []struct {
		text string
		line int
		e    api.Errno
	}{
		{"", 1, api.ErrForm},
		{"\n", 1, api.ErrForm},
		{"states 3 start 1", 1, api.ErrForm},
		{"states 3 start 1\r\n", 1, api.ErrForm},
		{" states 3 start 1\n", 1, api.ErrForm},
		{"states 3 start 1 \n", 1, api.ErrForm},
		{"states  3 start 1\n", 1, api.ErrForm},
		{"states 3\tstart 1\n", 1, api.ErrForm},
		{"states 3 start\n", 1, api.ErrForm},
		{"states 3 start 1 1\n", 1, api.ErrForm},
		{"States 3 start 1\n", 1, api.ErrForm},
		{"states 3 Start 1\n", 1, api.ErrForm},
		{"states 3 start -1\n", 1, api.ErrForm},
		{"states +3 start 1\n", 1, api.ErrForm},
		{"states 03 start 1\n", 1, api.ErrForm},
		{"states 3 start 00\n", 1, api.ErrForm},
		{"states 3 start 01\n", 1, api.ErrForm},
		{"states 0 start 0\n", 1, api.ErrForm},
		{"states 201 start 0\n", 1, api.ErrForm},
		{"states 200 start 199\n", 0, api.OK},
		{"states 200 start 200\n", 0, api.ErrNone},
		{"states 3 start 9999999999\n", 0, api.ErrNone},
		{"states 3 start 10000000000\n", 1, api.ErrForm},
		{"final 0 0\n", 1, api.ErrForm},
		{"0 0 0 0 0\n", 1, api.ErrForm},
		{head, 0, api.OK},
		{head + "\n", 2, api.ErrForm},
		{head + head, 2, api.ErrForm},
		{head + "final 0 0", 2, api.ErrForm},
		{head + "final\n", 2, api.ErrForm},
		{head + "final 0\n", 2, api.ErrForm},
		{head + "final 0 \n", 2, api.ErrForm},
		{head + "final 0 0 0\n", 2, api.ErrForm},
		{head + "finals 0 0\n", 2, api.ErrForm},
		{head + "final 0 -1\n", 2, api.ErrForm},
		{head + "final 00 0\n", 2, api.ErrForm},
		{head + "final 0 00\n", 2, api.ErrForm},
		{head + "final 2 0\n", 0, api.OK},
		{head + "final 3 0\n", 2, api.ErrForm},
		{head + "final 0 1\nfinal 2 1\n", 0, api.OK},
		{head + "final 1 1\nfinal 1 1\n", 3, api.ErrForm},
		{head + "final 1 1\nfinal 0 1\n", 3, api.ErrForm},
		{head + "final 1 1000000000\n", 0, api.OK},
		{head + "final 1 1000000001\n", 0, api.ErrRange},
		{head + "final 1 9999999999\n", 0, api.ErrRange},
		{head + "final 1 10000000000\n", 2, api.ErrForm},
		{head + "0 1 1 0 1\nfinal 0 0\n", 3, api.ErrForm},
		{head + "0 1 1 0 1\n\n", 3, api.ErrForm},
		{head + "0 1 1 0 1", 2, api.ErrForm},
		{head + "0 1 1 0\n", 2, api.ErrForm},
		{head + "0 1 1 0 1 1\n", 2, api.ErrForm},
		{head + "0 1 1 0 01\n", 2, api.ErrForm},
		{head + "0 1 1 0 -1\n", 2, api.ErrForm},
		{head + "0 1  1 0 1\n", 2, api.ErrForm},
		{head + "0 1 1 0 1\x00\n", 2, api.ErrForm},
		{head + "0 1 1 0 \xff\n", 2, api.ErrForm},
		{head + "0 1 1 0 １\n", 2, api.ErrForm},
		{head + "3 1 1 0 1\n", 0, api.ErrNone},
		{head + "0 1 1 3 1\n", 0, api.ErrNone},
		{head + "0 10 1 0 1\n", 0, api.ErrRange},
		{head + "0 1 10 0 1\n", 0, api.ErrRange},
		{head + "0 1 1 0 1000000000\n", 0, api.OK},
		{head + "0 1 1 0 1000000001\n", 0, api.ErrRange},
		{head + "0 1 1 0 1\n0 1 1 0 2\n", 0, api.ErrState},
		{head + "0 1 1 0 1\n0 0 1 0 2\n", 0, api.ErrState},
		{"states 1 start 1\n0 1 1 0 x\n", 2, api.ErrForm},
		{head + strings.Repeat("0 1 1 0 1\n", 3001), 0, api.ErrMany},
		{head + strings.Repeat("0 1 1 0 1\n", 3001) + "x\n", 3003, api.ErrForm},
	} {
		f, line, e := Parse(c.text)
		if line != c.line || e != c.e {
			t.Errorf("%.60q: it is %d, %d and must be %d, %d", c.text, line, e, c.line, c.e)
		}
		if e != api.OK && !reflect.DeepEqual(f, api.Fst{}) {
			t.Errorf("%.60q: an error, and %v", c.text, f)
		}
	}
}

// A2: a text that is too long, whatever stands in it; and the longest one that is not.
func TestParseOfLongTexts(t *testing.T) {
	for _, c := range []struct {
		text string
		line int
		e    api.Errno
	}{
		{strings.Repeat("x", 100000), 1, api.ErrForm},
		{strings.Repeat("x", 100001), 0, api.ErrMany},
		{strings.Repeat("\n", 100001), 0, api.ErrMany},
		{"states 1 start 0\n" + strings.Repeat("0 0 0 0 0\n", 9998) + "0 0", 10000, api.ErrForm},
		{"states 1 start 0\n" + strings.Repeat("0 0 0 0 0\n", 9998) + "0 0\n", 0, api.ErrMany},
	} {
		if _, line, e := Parse(c.text); line != c.line || e != c.e {
			t.Errorf("%d bytes: it is %d, %d and must be %d, %d", len(c.text), line, e, c.line, c.e)
		}
	}
}

// same: an empty list is as good as none.
func same(f, g api.Fst) bool {
	f.Arcs, g.Arcs = append([]api.Arc{}, f.Arcs...), append([]api.Arc{}, g.Arcs...)
	return reflect.DeepEqual(f, g)
}

// A4: what is printed is parsed as it was.
func TestPrintedIsParsed(t *testing.T) {
	l := []api.Fst{good(), full(), {States: 1, Final: []int{api.None}}}
	d := draw(1)
	for range 300 {
		l = append(l, d.fst(1+d.below(4), 1+d.below(3), 1+d.below(9)))
	}
	for _, f := range l {
		s, e := Print(f)
		g, line, h := Parse(s)
		if e != api.OK || line != 0 || h != api.OK || !same(f, g) {
			t.Fatalf("%v: %d; it comes back as %v, %d, %d", f, e, g, line, h)
		}
	}
}

// A4: nothing else is parsed: a text that has been changed is refused, or it is printed just so.
func TestNothingElseIsParsed(t *testing.T) {
	const bytes = "0129 \nfx-"
	d := draw(2)
	for range 40 {
		s, _ := Print(d.fst(1+d.below(3), 2, 8))
		for k := range len(s) {
			for b := range len(bytes) {
				for _, text := range []string{s[:k] + bytes[b:b+1] + s[k+1:], s[:k] + bytes[b:b+1] + s[k:], s[:k] + s[k+1:], s[:k]} {
					f, line, e := Parse(text)
					if e == api.OK {
						if p, h := Print(f); p != text || h != api.OK || line != 0 {
							t.Fatalf("%q is parsed, and printed as %q", text, p)
						}
					} else if (e == api.ErrForm) != (line > 0) || line > strings.Count(text, "\n")+1 {
						t.Fatalf("%q: %d at %d", text, e, line)
					}
				}
			}
		}
	}
}
