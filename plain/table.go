package plain

import (
	"slices"

	"fareway/api"
	"fareway/spread"
)

// table has what it costs at least to come from each state, which has a row, to each one; None, if it can't be.
type table [][]int

func empty(states int) table {
	t := make(table, states)
	for state := range t {
		t[state] = slices.Repeat([]int{api.None}, states)
	}
	return t
}

// tableOf arcs: from state to state by just one of them.
func tableOf(states int, arcs []api.Arc) table {
	t := empty(states)
	for _, a := range arcs {
		t.offer(a.From, a.To, a.Weight)
	}
	return t
}

// through a, then b: the best of all states between.
func through(a, b table) table {
	t := empty(len(a))
	for from, row := range a {
		for between, first := range row {
			for to, second := range b[between] {
				t.offer(from, to, spread.Sum(first, second))
			}
		}
	}
	return t
}

// offer a price, which is taken if it is better.
func (t table) offer(from, to, cost int) {
	if spread.Less(cost, t[from][to]) {
		t[from][to] = cost
	}
}

// turned has rows for columns.
func turned(t table) table {
	u := empty(len(t))
	for from, row := range t {
		for to, cost := range row {
			u[to][from] = cost
		}
	}
	return u
}

// thinned leaves needless elements out of each row, but none of those that are kept. One after the other: of two that make each other needless one stays.
func thinned(t, near table, kept func(to int) bool) table {
	var u table
	for _, row := range t {
		row = slices.Clone(row)
		for to := range row {
			if !kept(to) && needless(row, near, to) {
				row[to] = api.None
			}
		}
		u = append(u, row)
	}
	return u
}

// needless: does it cost no more to come to another state, and from there on as near tells?
func needless(row []int, near table, to int) bool {
	for other, first := range row {
		if cost := spread.Sum(first, near[other][to]); other != to && cost != api.None && !spread.Less(row[to], cost) {
			return true
		}
	}
	return false
}
