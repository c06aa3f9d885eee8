package link

import (
	"cmp"
	"slices"
	"strings"

	"spandrel/api"
	"spandrel/equ"
	"spandrel/expr"
)

// longEqu is an equ that has many terms. It is put in only where an item is asked for that has its word: a chain of equs
// of which each has one label more than the next would else take room by the square of its length.
type longEqu struct {
	// rank is above the ranks of those that it leads to.
	rank   int
	labels api.Lin
	others []api.Term
}

// longs holds the long equs by their words.
type longs map[string]longEqu

// keep makes the equ with this word a long one.
func (l longs) keep(word string, rank int, x api.Lin) {
	labels, others := parted(x)
	l[word] = longEqu{rank: rank, labels: labels, others: others}
}

// parted answers what x has of labels, with its number, and of long equs, in new memory.
func parted(x api.Lin) (api.Lin, []api.Term) {
	n := 0
	for n < len(x.Terms) && strings.HasPrefix(x.Terms[n].Name, equSign) {
		n++
	}
	return api.Lin{Terms: slices.Clone(x.Terms[n:]), Const: x.Const}, slices.Clone(x.Terms[:n])
}

// whole answers x in terms of label words alone, in new memory.
func (l longs) whole(x api.Lin) api.Lin {
	labels, others := parted(x)
	if len(others) == 0 {
		return labels
	}
	var sum api.Lin
	var given []api.Equ
	for _, t := range l.within(others) {
		sum.Terms = append(sum.Terms, t)
		given = append(given, api.Equ{Name: t.Name, E: l[t.Name].labels})
	}
	return expr.Add(labels, equ.Put(sum, given))
}

// within answers how often each long equ is in terms, with those that others lead to, by name.
func (l longs) within(terms []api.Term) []api.Term {
	times := map[string]uint32{}
	for _, t := range terms {
		times[t.Name] = t.Coef
	}
	reached := l.reached(terms)
	for _, word := range reached {
		for _, t := range l[word].others {
			times[t.Name] += times[word] * t.Coef
		}
	}
	slices.Sort(reached)
	var out []api.Term
	for _, word := range reached {
		// Ways that come to nothing together, modulo 2^32, leave nothing.
		if times[word] != 0 {
			out = append(out, api.Term{Name: word, Coef: times[word]})
		}
	}
	return out
}

// reached answers the words to which terms lead, their own too, each ahead of those that it leads to.
func (l longs) reached(terms []api.Term) []string {
	met := map[string]struct{}{}
	var out []string
	todo := slices.Clone(terms)
	for len(todo) > 0 {
		word := todo[len(todo)-1].Name
		todo = todo[:len(todo)-1]
		if _, ok := met[word]; ok {
			continue
		}
		met[word] = struct{}{}
		out = append(out, word)
		todo = append(todo, l[word].others...)
	}
	slices.SortFunc(out, func(a, b string) int { return cmp.Compare(l[b].rank, l[a].rank) })
	return out
}
