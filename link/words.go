package link

import (
	"strconv"
	"strings"

	"spandrel/api"
	"spandrel/equ"
	"spandrel/expr"
)

// What words begin with. Terms rise by name, so that those of equs stand ahead of those of labels.
const (
	equSign   = "E"
	labelSign = "L"
)

// word answers a name that no other label or equ of the program has.
func (m meaning) word() string {
	if m.isEqu {
		return equSign + strconv.Itoa(m.number)
	}
	return labelSign + strconv.Itoa(m.number)
}

// named answers m's word as an expression.
func (m meaning) named() api.Lin {
	return expr.Named(m.word())
}

// equNumber answers the number of the equ that has this word; false, if a label has it.
func equNumber(word string) (int, bool) {
	digits, ok := strings.CutPrefix(word, equSign)
	if !ok {
		return 0, false
	}
	n, err := strconv.Atoi(digits)
	return n, err == nil
}

// put answers x with what means tells of its names in their places; where it tells nothing, the name stays.
func put(x api.Lin, means func(name string) (api.Lin, bool)) api.Lin {
	// All are put in at once: a word may be a name of a unit, too.
	var given []api.Equ
	for _, t := range x.Terms {
		if e, ok := means(t.Name); ok {
			given = append(given, api.Equ{Name: t.Name, E: e})
		}
	}
	return equ.Put(x, given)
}
