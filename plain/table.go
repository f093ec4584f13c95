package plain

import (
	"slices"

	"fareway/api"
	"fareway/spread"
)

// table has what it costs at least to come from each state, which has a row, to each one; None, if it can't be.
type table [][]int

func empty(states int) table {
	t := make(table, states)
	for state := range t {
		t[state] = slices.Repeat([]int{api.None}, states)
	}
	return t
}

// tableOf arcs: from state to state by just one of them.
func tableOf(states int, arcs []api.Arc) table {
	t := empty(states)
	for _, a := range arcs {
		t.offer(a.From, a.To, a.Weight)
	}
	return t
}

// through a, then b: the best of all states between.
func through(a, b table) table {
	var t table
	for _, row := range a {
		t = append(t, step(row, b))
	}
	return t
}

// step on from states that it costs so much to be at.
func step(costs []int, t table) []int {
	l := slices.Repeat([]int{api.None}, len(costs))
	for from, first := range costs {
		if first == api.None {
			continue
		}
		for to, second := range t[from] {
			if cost := spread.Sum(first, second); spread.Less(cost, l[to]) {
				l[to] = cost
			}
		}
	}
	return l
}

// offer a price, which is taken if it is better.
func (t table) offer(from, to, cost int) {
	if spread.Less(cost, t[from][to]) {
		t[from][to] = cost
	}
}

// turned has rows for columns.
func turned(t table) table {
	u := empty(len(t))
	for from, row := range t {
		for to, cost := range row {
			u[to][from] = cost
		}
	}
	return u
}

func clone(t table) table {
	var u table
	for _, row := range t {
		u = append(u, slices.Clone(row))
	}
	return u
}

// thinned leaves needless elements out of each row, but none of those that are kept. One after the other: of two that make each other needless one stays.
func thinned(t, near table, kept func(to int) bool) table {
	u := clone(t)
	for _, row := range u {
		for to := range row {
			if !kept(to) && needless(row, near, to) {
				row[to] = api.None
			}
		}
	}
	return u
}

// needless: does it cost no more to come to another state, and from there on as near tells?
func needless(row []int, near table, to int) bool {
	for other, first := range row {
		if cost := spread.Sum(first, near[other][to]); other != to && cost != api.None && !spread.Less(row[to], cost) {
			return true
		}
	}
	return false
}

func sums(a, b []int) []int {
	var l []int
	for i := range a {
		l = append(l, spread.Sum(a[i], b[i]))
	}
	return l
}
