package least

import (
	"fareway/api"
	"fareway/short"
)

// kind of a state: what it costs to end there, and to which class each letter leads, for what. From states of one kind each word costs the same: they become one.
type kind struct {
	end  int
	next [api.MaxLetter]leap // that of the letter 1 first
}

// leap to a class; to None, if there is none.
type leap struct{ to, cost int }

// classes of states: one for each kind.
type classes struct {
	api.Fst
	on     []int // what it costs at least from each state on; but nothing from the start, as it can't be told earlier
	number map[kind]int
	kinds  []kind
}

// leastOf one that Is, does not go round, and of which each state lies on a way to an end.
func leastOf(f api.Fst) api.Fst {
	on, _ := short.To(f)
	on[f.Start] = 0
	c := classes{Fst: f, on: on, number: map[kind]int{}}
	return c.numbered(c.class(f.Start))
}

// class of a state. It is asked once for each beginning of a word, of which there are few.
func (c *classes) class(state int) int {
	k := kind{end: c.Final[state]}
	if k.end != api.None {
		k.end -= c.on[state]
	}
	for i := range k.next {
		k.next[i].to = api.None
	}
	for _, a := range c.Arcs {
		if a.From == state {
			k.next[a.In-1] = leap{to: c.class(a.To), cost: a.Weight + c.on[a.To] - c.on[state]}
		}
	}
	if _, ok := c.number[k]; !ok {
		c.number[k] = len(c.kinds)
		c.kinds = append(c.kinds, k)
	}
	return c.number[k]
}

// numbered has the classes as they are first come to, level by level, by rising letters.
func (c *classes) numbered(first int) api.Fst {
	var f api.Fst
	met := []int{first}
	anew := map[int]int{first: 0}
	for from := 0; from < len(met); from++ {
		k := c.kinds[met[from]]
		f.Final = append(f.Final, k.end)
		for i, l := range k.next {
			if l.to == api.None {
				continue
			}
			if _, ok := anew[l.to]; !ok {
				anew[l.to] = len(met)
				met = append(met, l.to)
			}
			f.Arcs = append(f.Arcs, api.Arc{From: from, In: i + 1, Out: i + 1, To: anew[l.to], Weight: l.cost})
		}
	}
	f.States = len(met)
	return f
}
