package equ

import (
	"math"
	"slices"

	"spandrel/api"
)

// walk goes the ways of names of l. It answers the numbers of the equs, each behind those that it leads to, unless they lead back to it; and the names that come back to themselves, with their numbers.
func walk(l []api.Equ) ([]int, map[string]int) {
	at := make(map[string]int, len(l))
	for i, q := range l {
		at[q.Name] = i
	}
	order, back := make([]int, 0, len(l)), map[string]int{}
	// met numbers the equs as they are met, from 1 on; 0 is not yet. One that is done leads to no open one and must count for none: it has the greatest number.
	met, count := make([]int, len(l)), 0
	// open are the equs that are met and not done, in the order in which they were met.
	var open []int

	// finish is called when no way leads from the open ones from that place on to those ahead of it: they are one alone, or all lead to each other.
	finish := func(from int) {
		ring := open[from:]
		for _, i := range ring {
			met[i] = math.MaxInt
			if len(ring) > 1 || leadsToItself(l[i]) {
				back[l[i].Name] = i
			}
		}
		order = append(order, ring...)
		open = open[:from]
	}

	// visit goes all ways from an equ that is not met yet, and answers the least number of an open one that they come to.
	var visit func(i int) int
	visit = func(i int) int {
		count++
		own, from := count, len(open)
		least := own
		met[i] = own
		open = append(open, i)
		for _, t := range l[i].E.Terms {
			to, ok := at[t.Name]
			switch {
			case !ok:
				continue
			case met[to] == 0:
				least = min(least, visit(to))
			default:
				least = min(least, met[to])
			}
		}
		if least == own {
			finish(from)
		}
		return least
	}
	for i := range l {
		if met[i] == 0 {
			visit(i)
		}
	}
	return order, back
}

// leadsToItself tells whether q's own name is one of its expression's terms.
func leadsToItself(q api.Equ) bool {
	return slices.ContainsFunc(q.E.Terms, func(t api.Term) bool { return t.Name == q.Name })
}
