package least

import (
	"slices"
	"strconv"
	"strings"

	"fareway/api"
)

// costs of all words that can be, by their letters as a text, gone through way by way.
func costs(f api.Fst) map[string]int {
	l := map[string]int{}
	var on func(state, cost int, word string)
	on = func(state, cost int, word string) {
		if f.Final[state] != api.None {
			if was, ok := l[word]; !ok || cost+f.Final[state] < was {
				l[word] = cost + f.Final[state]
			}
		}
		for _, a := range f.Arcs {
			if a.From == state {
				on(a.To, cost+a.Weight, word+strconv.Itoa(a.In))
			}
		}
	}
	on(f.Start, 0, "")
	return l
}

// behind a beginning: what the words cost that go on, without what they all cost; and that.
func behind(l map[string]int, beginning string) (rest map[string]int, all int) {
	rest = map[string]int{}
	all = -1
	for word, cost := range l {
		if strings.HasPrefix(word, beginning) && (all < 0 || cost < all) {
			all = cost
		}
	}
	for word, cost := range l {
		if strings.HasPrefix(word, beginning) {
			rest[word[len(beginning):]] = cost - all
		}
	}
	return rest, all
}

// name is the same for words that cost the same.
func name(l map[string]int) string {
	var s []string
	for word, cost := range l {
		s = append(s, word+" "+strconv.Itoa(cost))
	}
	slices.Sort(s)
	return strings.Join(s, ", ")
}

// beginnings is how many beginnings the words have.
func beginnings(l map[string]int) int {
	met := map[string]int{}
	for word := range l {
		for n := range len(word) + 1 {
			met[word[:n]] = n
		}
	}
	return len(met)
}

// byWords is the least one, made of what the words cost, as the document says: a state for all beginnings behind which the words go on alike. How great its weights are is not looked at.
func byWords(l map[string]int) api.Fst {
	if len(l) == 0 {
		return api.Fst{States: 1, Final: []int{api.None}}
	}
	var f api.Fst
	met := []string{""}
	_, told := behind(l, "")
	number := map[string]int{} // of a state, by what goes on there
	rest, _ := behind(l, "")
	number[name(rest)] = 0
	for from := 0; from < len(met); from++ {
		rest, all := behind(l, met[from])
		extra := 0
		if from == 0 {
			extra = told
		}
		end, ok := rest[""]
		if ok {
			f.Final = append(f.Final, end+extra)
		} else {
			f.Final = append(f.Final, api.None)
		}
		for letter := 1; letter <= api.MaxLetter; letter++ {
			next := met[from] + strconv.Itoa(letter)
			on, cost := behind(l, next)
			if len(on) == 0 {
				continue
			}
			to, ok := number[name(on)]
			if !ok {
				to = len(met)
				number[name(on)] = to
				met = append(met, next)
			}
			f.Arcs = append(f.Arcs, arc(from, letter, to, cost-all+extra))
		}
	}
	f.States = len(met)
	return f
}

// greatest weight of all.
func greatest(f api.Fst) int {
	most := slices.Max(f.Final)
	for _, a := range f.Arcs {
		most = max(most, a.Weight)
	}
	return most
}
