package oneway

import "fareway/api"

// kind of a state: what it costs to end there, and to which class each letter leads, for what.
type kind struct {
	end  int
	next [api.MaxLetter]leap // that of the letter 1 first
}

// leap to a class; to None, if there is none.
type leap struct{ to, cost int }

// Joined has one state for all from which each word costs the same, if there is one way for each word. They are numbered as they are first come to, level by level from the start, by rising letters.
func Joined(f api.Fst) api.Fst {
	classes := make([]int, f.States)
	kinds := kindsOf(f, classes)
	// States of one class are held against each other by the classes that letters lead to, until no more of them differ.
	for count := 1; ; {
		number := map[kind]int{}
		for state, k := range kinds {
			if _, ok := number[k]; !ok {
				number[k] = len(number)
			}
			classes[state] = number[k]
		}
		kinds = kindsOf(f, classes)
		if len(number) == count {
			break
		}
		count = len(number)
	}
	return numbered(f.Start, classes, kinds)
}

func kindsOf(f api.Fst, classes []int) []kind {
	kinds := make([]kind, f.States)
	for state, cost := range f.Final {
		kinds[state].end = cost
		for i := range kinds[state].next {
			kinds[state].next[i].to = api.None
		}
	}
	for _, a := range f.Arcs {
		kinds[a.From].next[a.In-1] = leap{to: classes[a.To], cost: a.Weight}
	}
	return kinds
}

// numbered has the classes that can be come to from that of the start.
func numbered(start int, classes []int, kinds []kind) api.Fst {
	one := map[int]kind{} // of each class
	for state, class := range classes {
		one[class] = kinds[state]
	}
	var f api.Fst
	met := []int{classes[start]}
	anew := map[int]int{classes[start]: 0}
	for from := 0; from < len(met); from++ {
		k := one[met[from]]
		f.Final = append(f.Final, k.end)
		for i, l := range k.next {
			if l.to == api.None {
				continue
			}
			if _, ok := anew[l.to]; !ok {
				anew[l.to] = len(met)
				met = append(met, l.to)
			}
			f.Arcs = append(f.Arcs, api.Arc{From: from, In: i + 1, Out: i + 1, To: anew[l.to], Weight: l.cost})
		}
	}
	f.States = len(met)
	return f
}
