package layout

import (
	"slices"
	"strconv"
	"strings"

	"spandrel/api"
	"spandrel/isa"
	"spandrel/link"
	"spandrel/pool"
)

// labelSign is what label words begin with; the label's number stands behind it.
const labelSign = "L"

// labelNumber answers the number of the label that has this word; false, if the word is no label's, however many there are.
func labelNumber(word string) (int, bool) {
	digits, ok := strings.CutPrefix(word, labelSign)
	if !ok {
		return 0, false
	}
	n, err := strconv.Atoi(digits)
	// A number has one writing: signs and noughts ahead make other words.
	return n, err == nil && n >= 0 && strconv.Itoa(n) == digits
}

// nth answers l[n], or 0, if there is none: a Layout that is asked may be another program's.
func nth(l []int, n int) int {
	if n < 0 || n >= len(l) {
		return 0
	}
	return l[n]
}

// address answers where an item of a Text lies.
func address(l Layout, at place) int {
	if at.unit < 0 || at.unit >= len(l.Text) {
		return 0
	}
	return nth(l.Text[at.unit], at.item)
}

// addressBehind answers the address behind the Code that is at that place, in a Text of so many items: that of what lies next,
// as a Layout does not tell forms.
func addressBehind(p *link.Program, l Layout, at place, items int) int {
	next := place{at.unit, at.item + 1}
	if next.item < items {
		return address(l, next)
	}
	for number, q := range pool.Pools(p) {
		if placeOf(q) == next {
			return nth(l.Pools, number)
		}
	}
	for unit, addresses := range l.Text {
		if unit > at.unit && len(addresses) > 0 {
			return addresses[0]
		}
	}
	return l.Code
}

// distance answers how far behind the load at that place that literal of that pool lies.
func distance(l Layout, at place, load api.Item, number, literal int) int {
	to := nth(l.Pools, number) + poolHead + wordSize*literal
	return to - (address(l, at) + isa.Len(load.Inst))
}

// isTooFar tells whether a load does not reach its literal.
func isTooFar(p *link.Program, l Layout) bool {
	var items []api.Item
	at := place{unit: -1}
	for number, q := range pool.Pools(p) {
		if q.Unit != at.unit {
			items, at = p.Items(q.Unit, text), place{unit: q.Unit}
		}
		// The first load of a pool lies farthest from its literal: each one behind it takes as many bytes as a literal does.
		at.item += slices.IndexFunc(items[at.item:q.Item], isLoad)
		if distance(l, at, items[at.item], number, 0) > api.PoolReach {
			return true
		}
		at.item = q.Item
	}
	return false
}

// isLoad tells whether x has a literal.
func isLoad(x api.Item) bool {
	op, _ := isa.At(x.Inst.Op)
	return x.Kind == api.Code && op.Shape == isa.Load
}
