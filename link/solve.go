package link

import (
	"slices"
	"strings"

	"spandrel/api"
	"spandrel/equ"
	"spandrel/expr"
)

// mostTerms is how many terms an equ may have, and still have its expression put in wherever its name stands. One that has more is long.
const mostTerms = 16

// solution is what the equs of all units come to, in terms of words.
type solution struct {
	// forms tells by an equ's number what stands in its place: an expression, or, of a long one, its word.
	forms []api.Lin
	long  longs
}

// solve solves the equs of units, or answers the first that comes back to itself.
func (known names) solve(units []api.Unit) (solution, Fail) {
	// By their words the equs of all units are one list, and names lead over units.
	var all []api.Equ
	var places []nameIn
	for n, u := range units {
		for _, q := range u.Equs {
			place := nameIn{n, q.Name}
			words := put(q.E, func(name string) (api.Lin, bool) {
				m, ok := known.find(n, name)
				return m.named(), ok
			})
			all = append(all, api.Equ{Name: known[place].word(), E: words})
			places = append(places, place)
		}
	}
	if first, ok := firstBack(all); ok {
		return solution{}, Fail{Why: api.ErrCycle, Unit: places[first].unit, Name: strings.Clone(places[first].name)}
	}
	return solveAll(all), Fail{}
}

// firstBack answers the number of the first of all that comes back to itself; false, if none does.
func firstBack(all []api.Equ) (int, bool) {
	back := equ.Cycle(all)
	for i, q := range all {
		if _, ok := slices.BinarySearch(back, q.Name); ok {
			return i, true
		}
	}
	return 0, false
}

// solveAll solves equs that are named by their words, none of which comes back to itself.
func solveAll(all []api.Equ) solution {
	s := solution{forms: make([]api.Lin, len(all)), long: longs{}}
	form := func(word string) (api.Lin, bool) {
		if number, ok := equNumber(word); ok {
			return s.forms[number], true
		}
		return api.Lin{}, false
	}
	for rank, number := range ranked(all) {
		x := put(all[number].E, form)
		if len(x.Terms) > mostTerms {
			s.long.keep(all[number].Name, rank, x)
			x = expr.Named(all[number].Name)
		}
		s.forms[number] = x
	}
	return s
}

// ranked answers the numbers of all, each behind those that it leads to.
func ranked(all []api.Equ) []int {
	out, met := make([]int, 0, len(all)), make([]bool, len(all))
	var visit func(number int)
	visit = func(number int) {
		met[number] = true
		for _, t := range all[number].E.Terms {
			if to, ok := equNumber(t.Name); ok && !met[to] {
				visit(to)
			}
		}
		out = append(out, number)
	}
	for number := range all {
		if !met[number] {
			visit(number)
		}
	}
	return out
}

// items answers l, items of that unit, in terms of words: those of labels and of long equs.
func (known names) items(unit int, l []api.Item, s solution) []api.Item {
	form := func(name string) (api.Lin, bool) {
		m, ok := known.find(unit, name)
		if m.isEqu {
			return s.forms[m.number], ok
		}
		return m.named(), ok
	}
	var out []api.Item
	for _, x := range l {
		x.Name = strings.Clone(x.Name)
		x.E = put(x.E, form)
		out = append(out, x)
	}
	return out
}
