package fst

import (
	"slices"
	"strings"

	"fareway/api"
)

// What a text may have at most.
const (
	maxText   = 100000
	maxDigits = 10
)

// Parse a transducer.
func Parse(s string) (api.Fst, int, api.Errno) {
	if len(s) > maxText {
		return api.Fst{}, 0, api.ErrMany
	}
	r := &reader{lastFinal: -1}
	// An empty text lacks its first line, so that one is looked for whatever there is.
	for n := 1; n == 1 || s != ""; n++ {
		line, rest, ended := strings.Cut(s, lineEnd)
		take := r.taker(line)
		if !ended || !take(line) {
			return api.Fst{}, n, api.ErrForm
		}
		s = rest
	}
	if e := Check(r.f); e != api.OK {
		return api.Fst{}, 0, e
	}
	return r.f, 0, api.OK
}

// reader has what the lines so far have told.
type reader struct {
	f         api.Fst
	lastFinal int
}

// taker chooses what takes a line.
func (r *reader) taker(line string) func(string) bool {
	if r.f.States == 0 {
		return r.takeHead
	}
	if strings.HasPrefix(line, wordFinal) {
		return r.takeFinal
	}
	return r.takeArc
}

func (r *reader) takeHead(line string) bool {
	fields := strings.Split(line, blank)
	if len(fields) != 4 || fields[0] != wordStates || fields[2] != wordStart {
		return false
	}
	n, ok := numbers(fields[1], fields[3])
	if !ok || !within(n[0], 1, api.MaxStates) {
		return false
	}
	r.f.States, r.f.Start = n[0], n[1]
	r.f.Final = slices.Repeat([]int{api.None}, r.f.States)
	return true
}

func (r *reader) takeFinal(line string) bool {
	fields := strings.Split(line, blank)
	if len(fields) != 3 || fields[0] != wordFinal || len(r.f.Arcs) > 0 {
		return false
	}
	n, ok := numbers(fields[1:]...)
	if !ok || !isState(r.f, n[0]) || n[0] <= r.lastFinal {
		return false
	}
	r.f.Final[n[0]] = n[1]
	r.lastFinal = n[0]
	return true
}

func (r *reader) takeArc(line string) bool {
	n, ok := numbers(strings.Split(line, blank)...)
	if !ok || len(n) != 5 {
		return false
	}
	r.f.Arcs = append(r.f.Arcs, api.Arc{From: n[0], In: n[1], Out: n[2], To: n[3], Weight: n[4]})
	return true
}

// numbers of some fields, if each of them is one.
func numbers(fields ...string) ([]int, bool) {
	var l []int
	for _, field := range fields {
		n, ok := number(field)
		if !ok {
			return nil, false
		}
		l = append(l, n)
	}
	return l, true
}

// number is stricter than the library's: no sign, no nought ahead.
func number(field string) (int, bool) {
	if len(field) < 1 || len(field) > maxDigits || len(field) > 1 && field[0] == '0' {
		return 0, false
	}
	n := 0
	for i := range len(field) {
		if field[i] < '0' || field[i] > '9' {
			return 0, false
		}
		n = n*10 + int(field[i]-'0')
	}
	return n, true
}
