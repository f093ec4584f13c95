// Package score: what a pair of words costs: see doc/02-score.md.
package score

import (
	"slices"

	"fareway/api"
	"fareway/sound"
)

// Word: is one right?
func Word(l []int) api.Errno {
	if len(l) > api.MaxWord {
		return api.ErrMany
	}
	if slices.ContainsFunc(l, func(letter int) bool { return letter < 1 || letter > api.MaxLetter }) {
		return api.ErrRange
	}
	return api.OK
}

// Score of two words.
func Score(f api.Fst, in, out []int) (int, api.Errno) {
	_, cost, e := Walk(f, in, out)
	return cost, e
}

// Walk by two words.
func Walk(f api.Fst, in, out []int) ([]int, int, api.Errno) {
	if e := sound.All(f); e != api.OK {
		return nil, 0, e
	}
	if e := Word(in); e != api.OK {
		return nil, 0, e
	}
	if e := Word(out); e != api.OK {
		return nil, 0, e
	}
	s := begin(f, in, out)
	last, cost := s.find(func(at spot) int {
		if at.read < len(in) || at.written < len(out) {
			return api.None
		}
		return f.Final[at.state]
	})
	if cost == api.None {
		return nil, api.None, api.OK
	}
	return s.wayTo(last), cost, api.OK
}
