package layout

import (
	"spandrel/api"
	"spandrel/isa"
	"spandrel/pool"
)

// dataAlign is what the address at which data begin is a multiple of.
const dataAlign = 16

// The bytes of a pool ahead of its literals, and of each literal, which is a word.
const (
	poolHead = 1
	wordSize = 4
)

// place is an item of a Text by the numbers of its unit and of its own, or, with the number of items, the end of a unit's Text.
type place struct {
	unit, item int
}

func placeOf(q pool.Pool) place {
	return place{q.Unit, q.Item}
}

// layer lays items one behind the other.
type layer struct {
	// at is the address behind all that is laid.
	at int
	// forms and pools are those that come next.
	forms []int
	pools []pool.Pool
	// laid are the addresses of the pools that are laid.
	laid []int
}

// layText lays the items of that unit's Text, with its pools, and answers the items' addresses.
func (y *layer) layText(unit int, items []api.Item) []int {
	out := make([]int, len(items))
	for i, x := range items {
		out[i] = y.at
		y.layPool(place{unit, i})
		y.layItem(x)
	}
	y.layPool(place{unit, len(items)})
	return out
}

// layItems lays items among which there are no pools, and answers their addresses.
func (y *layer) layItems(items []api.Item) []int {
	out := make([]int, len(items))
	for i, x := range items {
		out[i] = y.at
		y.layItem(x)
	}
	return out
}

// layPool lays the pool of that place, if it has one.
func (y *layer) layPool(at place) {
	if len(y.pools) == 0 || placeOf(y.pools[0]) != at {
		return
	}
	y.laid = append(y.laid, y.at)
	y.at += poolHead + wordSize*len(y.pools[0].Literals)
	y.pools = y.pools[1:]
}

// layItem lays x, but for the pool that an item Pool may have.
func (y *layer) layItem(x api.Item) {
	switch x.Kind {
	case api.Code:
		y.at += isa.Len(y.formed(x))
	case api.Align:
		y.alignTo(x.N)
	case api.Byte:
		y.at++
	case api.Word:
		y.at += wordSize
	case api.Space:
		y.at += x.N
	}
}

// formed answers x's instruction, with the next form, if it has one.
func (y *layer) formed(x api.Item) api.Inst {
	i := x.Inst
	if isSpan(x) {
		i.Form = y.forms[0]
		y.forms = y.forms[1:]
	}
	return i
}

// alignTo goes on to a multiple of n.
func (y *layer) alignTo(n int) {
	y.at = (y.at + n - 1) / n * n
}

// isSpan tells whether x has a displacement.
func isSpan(x api.Item) bool {
	return x.Kind == api.Code && isa.Spans(x.Inst.Op)
}
