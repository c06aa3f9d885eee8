package link

import (
	"iter"
	"strings"

	"spandrel/api"
)

// everywhere stands in the place of a unit's number where a name is known to all units.
const everywhere = -1

// nameIn is a name in a unit: what a name means hangs on both.
type nameIn struct {
	unit int
	name string
}

// meaning is what a name stands for: a label or an equ, by its number among those of all units.
type meaning struct {
	isEqu  bool
	number int
}

// names holds what each unit's own names mean in it, and what the globals mean everywhere.
type names map[nameIn]meaning

// ownNames answers what the names of the units' labels, which are those given, and equs mean in their units.
func ownNames(labels []Label, units []api.Unit) names {
	known := names{}
	for number, l := range labels {
		known[nameIn{l.Unit, l.Name}] = meaning{number: number}
	}
	number := 0
	for n, u := range units {
		for _, q := range u.Equs {
			known[nameIn{n, strings.Clone(q.Name)}] = meaning{isEqu: true, number: number}
			number++
		}
	}
	return known
}

// share makes the units' globals known everywhere, or answers the first that a unit ahead has made known.
func (known names) share(units []api.Unit) Fail {
	for n, u := range units {
		for _, g := range u.Globals {
			name := strings.Clone(g)
			all := nameIn{everywhere, name}
			if _, ok := known[all]; ok {
				return Fail{Why: api.ErrDup, Unit: n, Name: name}
			}
			known[all] = known[nameIn{n, name}]
		}
	}
	return Fail{}
}

// find answers what the name means in that unit; false, if it means nothing there.
func (known names) find(unit int, name string) (meaning, bool) {
	// A unit's own name hides a global.
	m, ok := known[nameIn{unit, name}]
	if !ok {
		m, ok = known[nameIn{everywhere, name}]
	}
	return m, ok
}

// missing answers the first name in the units' expressions that means nothing there; the zero Fail, if there is none.
func (known names) missing(units []api.Unit) Fail {
	for n, u := range units {
		for x := range expressions(u) {
			for _, t := range x.Terms {
				if _, ok := known.find(n, t.Name); !ok {
					return Fail{Why: api.ErrUndef, Unit: n, Name: strings.Clone(t.Name)}
				}
			}
		}
	}
	return Fail{}
}

// expressions goes over u's expressions: those of Text, of Data, of the equs.
func expressions(u api.Unit) iter.Seq[api.Lin] {
	return func(yield func(api.Lin) bool) {
		for _, l := range [sections][]api.Item{text: u.Text, data: u.Data} {
			for _, x := range l {
				if !yield(x.E) {
					return
				}
			}
		}
		for _, q := range u.Equs {
			if !yield(q.E) {
				return
			}
		}
	}
}
