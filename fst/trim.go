package fst

import "fareway/api"

// Trim a transducer.
func Trim(f api.Fst) (api.Fst, api.Errno) {
	if e := Check(f); e != api.OK {
		return api.Fst{}, e
	}
	anew := stay(f)
	start, ok := anew[f.Start]
	if !ok {
		return api.Fst{States: 1, Final: []int{api.None}}, api.OK
	}
	t := api.Fst{States: len(anew), Start: start}
	for state, cost := range f.Final {
		if _, ok := anew[state]; ok {
			t.Final = append(t.Final, cost)
		}
	}
	for _, a := range f.Arcs {
		from, begins := anew[a.From]
		to, ends := anew[a.To]
		if begins && ends {
			t.Arcs = append(t.Arcs, api.Arc{From: from, In: a.In, Out: a.Out, To: to, Weight: a.Weight})
		}
	}
	return t, api.OK
}

// stay has the new number of each state that lies on a way from Start to a final one.
func stay(f api.Fst) map[int]int {
	ahead := reach(f, func(state int) bool { return state == f.Start }, func(a api.Arc) (int, int) { return a.From, a.To })
	back := reach(f, func(state int) bool { return f.Final[state] != api.None }, func(a api.Arc) (int, int) { return a.To, a.From })
	anew := map[int]int{}
	for state := range f.States {
		_, comes := ahead[state]
		_, leads := back[state]
		if comes && leads {
			anew[state] = len(anew)
		}
	}
	return anew
}

// reach has the states that arcs lead to from those that are first; along tells from where to where an arc is gone.
func reach(f api.Fst, first func(int) bool, along func(api.Arc) (int, int)) map[int]struct{} {
	next := map[int][]int{}
	for _, a := range f.Arcs {
		from, to := along(a)
		next[from] = append(next[from], to)
	}
	met := map[int]struct{}{}
	var open []int
	meet := func(state int) {
		if _, ok := met[state]; !ok {
			met[state] = struct{}{}
			open = append(open, state)
		}
	}
	for state := range f.States {
		if first(state) {
			meet(state)
		}
	}
	for len(open) > 0 {
		state := open[len(open)-1]
		open = open[:len(open)-1]
		for _, to := range next[state] {
			meet(to)
		}
	}
	return met
}
