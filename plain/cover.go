package plain

import (
	"slices"

	"fareway/api"
	"fareway/spread"
)

// set of states, of which there are few enough.
type set uint32

func (s set) has(state int) bool { return s>>state&1 == 1 }

func (s set) with(state int) set { return s | 1<<state }

func (s set) without(state int) set { return s &^ (1 << state) }

// choice tells when one goes along silent arcs between two letters: from the state to which the first one leads to some states at once, and from these to the state where the next one begins later on.
type choice struct {
	atOnce  []set // where one goes at once, for each state to which a letter leads
	laterOn []set // from where one goes later on, for each state where a letter begins
}

// cover has what a choice must hold to: each two states have one between, which serves them, by which it costs no more.
type cover struct {
	*strides
	core             []table
	targets, sources []int // to which letters lead, and where they begin
	serves           [][]set
	servesEnd        []set
}

func coverOf(s *strides) *cover {
	c := &cover{strides: s, core: s.core()}
	back := turned(s.silent)
	for state, row := range s.silent {
		c.serves = append(c.serves, nil)
		for to, cost := range row {
			c.serves[state] = append(c.serves[state], between(row, back[to], cost))
		}
		c.servesEnd = append(c.servesEnd, between(row, s.final, s.final[state]))
		if leaves(c.core, state) {
			c.sources = append(c.sources, state)
		}
		if leaves(each(c.core, turned), state) {
			c.targets = append(c.targets, state)
		}
	}
	return c
}

// between: by which states does it cost so much to come there, and on?
func between(there, on []int, cost int) set {
	var s set
	for state, sum := range sums(there, on) {
		if sum != api.None && sum == cost {
			s = s.with(state)
		}
	}
	return s
}

// leaves: does anything lead from that state to another one?
func leaves(l []table, state int) bool {
	return slices.ContainsFunc(l, func(t table) bool { return spread.Cheapest(t[state]) != api.None })
}

// core of the arcs by each letter: without those that cost no less than another one with silent arcs ahead of it and behind it.
func (s *strides) core() []table {
	return each(s.single, func(t table) table {
		u := clone(t)
		for from, row := range u {
			for to, cost := range row {
				if cost != api.None && s.around(u, from, to) {
					row[to] = api.None
				}
			}
		}
		return u
	})
}

func (s *strides) around(t table, from, to int) bool {
	for begin, first := range s.silent[from] {
		for end, second := range t[begin] {
			cost := spread.Sum(spread.Sum(first, second), s.silent[end][to])
			if (begin != from || end != to) && cost != api.None && cost <= t[from][to] {
				return true
			}
		}
	}
	return false
}

// served: is there a state between?
func (c *cover) served(l choice, from, to int) bool {
	return c.silent[from][to] == api.None || l.atOnce[from]&l.laterOn[to]&c.serves[from][to] != 0
}

func (c *cover) servedEnd(l choice, from int) bool {
	return c.final[from] == api.None || l.atOnce[from]&c.servesEnd[from] != 0
}

// open is how much is not served yet.
func (c *cover) open(l choice) int {
	n := 0
	for _, from := range c.targets {
		if !c.servedEnd(l, from) {
			n++
		}
		for _, to := range c.sources {
			if !c.served(l, from, to) {
				n++
			}
		}
	}
	return n
}

// few takes the state that serves the most, then so again, until all is served; then it leaves out what is served twice.
func (c *cover) few() choice {
	now := c.first()
	for open := c.open(now); open > 0; {
		var next choice
		for state := range c.silent {
			l := c.also(now, state)
			if n := c.open(l); n < open {
				next, open = l, n
			}
		}
		now = next
	}
	for state := range c.silent {
		now = c.notLaterOn(c.notAtOnce(now, state), state)
	}
	return now
}

// first: ahead of the first letter one goes later on from the start, whatever is chosen; nothing else is chosen yet.
func (c *cover) first() choice {
	l := choice{make([]set, len(c.silent)), make([]set, len(c.silent))}
	for _, to := range c.sources {
		if c.silent[c.start][to] != api.None {
			l.laterOn[to] = l.laterOn[to].with(c.start)
		}
	}
	return l
}

// also takes a state for all that it serves and nothing else does yet.
func (c *cover) also(old choice, state int) choice {
	l := choice{slices.Clone(old.atOnce), slices.Clone(old.laterOn)}
	for _, from := range c.targets {
		if c.servesEnd[from].has(state) && !c.servedEnd(old, from) {
			l.atOnce[from] = l.atOnce[from].with(state)
		}
		for _, to := range c.sources {
			if c.serves[from][to].has(state) && !c.served(old, from, to) {
				l.atOnce[from] = l.atOnce[from].with(state)
				l.laterOn[to] = l.laterOn[to].with(state)
			}
		}
	}
	return l
}

// notAtOnce leaves a state out as far as may be: one does not go there at once any more.
func (c *cover) notAtOnce(old choice, state int) choice {
	l := choice{slices.Clone(old.atOnce), old.laterOn}
	for _, from := range c.targets {
		l.atOnce[from] = l.atOnce[from].without(state)
		if c.open(l) > 0 {
			l.atOnce[from] = old.atOnce[from]
		}
	}
	return l
}

// notLaterOn leaves a state out as far as may be: one does not go from there later on any more.
func (c *cover) notLaterOn(old choice, state int) choice {
	l := choice{old.atOnce, slices.Clone(old.laterOn)}
	for _, to := range c.sources {
		l.laterOn[to] = l.laterOn[to].without(state)
		if c.open(l) > 0 || state == c.start {
			l.laterOn[to] = old.laterOn[to]
		}
	}
	return l
}

// covered goes along silent arcs in part behind the last letter, in part ahead of the next one, so that there are few arcs.
func (s *strides) covered() net {
	c := coverOf(s)
	l := c.few()
	ahead, behind := empty(len(s.silent)), empty(len(s.silent))
	for from, row := range s.silent {
		for to, cost := range row {
			if l.laterOn[to].has(from) {
				ahead[from][to] = cost
			}
			if l.atOnce[from].has(to) {
				behind[from][to] = cost
			}
		}
	}
	return s.net(each(c.core, func(t table) table { return through(through(ahead, t), behind) }))
}
