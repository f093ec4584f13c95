package fst

import (
	"strconv"
	"strings"

	"fareway/api"
)

// The words of a text, and what stands between and behind them.
const (
	wordStates = "states"
	wordStart  = "start"
	wordFinal  = "final"
	blank      = " "
	lineEnd    = "\n"
)

// Print a transducer.
func Print(f api.Fst) (string, api.Errno) {
	if e := Check(f); e != api.OK {
		return "", e
	}
	var text strings.Builder
	say := func(fields ...string) {
		text.WriteString(strings.Join(fields, blank))
		text.WriteString(lineEnd)
	}
	say(wordStates, strconv.Itoa(f.States), wordStart, strconv.Itoa(f.Start))
	for state, cost := range f.Final {
		if cost != api.None {
			say(wordFinal, strconv.Itoa(state), strconv.Itoa(cost))
		}
	}
	for _, a := range f.Arcs {
		say(strconv.Itoa(a.From), strconv.Itoa(a.In), strconv.Itoa(a.Out), strconv.Itoa(a.To), strconv.Itoa(a.Weight))
	}
	return text.String(), api.OK
}
