package link

import (
	"strconv"
	"strings"

	"spandrel/api"
	"spandrel/equ"
	"spandrel/expr"
)

// word answers a name that no other label or equ of the program has.
func (m meaning) word() string {
	if m.isEqu {
		return "E" + strconv.Itoa(m.number)
	}
	return "L" + strconv.Itoa(m.number)
}

// named answers m's word as an expression.
func (m meaning) named() api.Lin {
	return expr.Named(m.word())
}

// solve answers a function that tells what a label or an equ is in terms of label words, or the first equ that comes back to itself.
func (known names) solve(units []api.Unit) (func(meaning) api.Lin, Fail) {
	// By their words the equs of all units are one list, and names lead over units.
	var all []api.Equ
	var places []nameIn
	for n, u := range units {
		for _, q := range u.Equs {
			all = append(all, api.Equ{Name: known[nameIn{n, q.Name}].word(), E: known.put(n, q.E, meaning.named)})
			places = append(places, nameIn{n, q.Name})
		}
	}
	solved, first, why := equ.Solve(all)
	if why != api.OK {
		return nil, Fail{Why: why, Unit: places[first].unit, Name: strings.Clone(places[first].name)}
	}
	return func(m meaning) api.Lin {
		if m.isEqu {
			return solved[m.number].E
		}
		return m.named()
	}, Fail{}
}

// put answers x, an expression of that unit, with what its names mean in their places.
func (known names) put(unit int, x api.Lin, means func(meaning) api.Lin) api.Lin {
	// All are put in at once: a word may be a name of the unit, too.
	var given []api.Equ
	for _, t := range x.Terms {
		m, _ := known.find(unit, t.Name)
		given = append(given, api.Equ{Name: t.Name, E: means(m)})
	}
	return equ.Put(x, given)
}

// items answers l, items of that unit, with what the names of their expressions mean in their places.
func (known names) items(unit int, l []api.Item, means func(meaning) api.Lin) []api.Item {
	var out []api.Item
	for _, x := range l {
		x.Name = strings.Clone(x.Name)
		x.E = known.put(unit, x.E, means)
		out = append(out, x)
	}
	return out
}
