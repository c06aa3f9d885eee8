// Package loads goes over the loads of a program with where their literals lie, for the layers that ask of all of them.
package loads

import (
	"iter"

	"spandrel/api"
	"spandrel/expr"
	"spandrel/isa"
	"spandrel/layout"
	"spandrel/link"
	"spandrel/pool"
)

// text is the number of the section that loads stand in.
const text = 0

// The bytes of a pool ahead of its literals, and of each literal.
const (
	poolHead    = 1
	literalSize = 4
)

// Load is a load: which item of which unit it is, what stands there, the number of its pool, and that of its literal in it.
type Load struct {
	Unit, Item    int
	Code          api.Item
	Pool, Literal int
}

// All goes over p's loads; over none of a nil program. As pool.Slot asks the program for the items of all units ahead each time,
// asking it of each load would take time by the square of their number.
func All(p *link.Program) iter.Seq[Load] {
	return func(yield func(Load) bool) {
		var items []api.Item
		unit, from := -1, 0
		for number, q := range pool.Pools(p) {
			if q.Unit != unit {
				unit, from, items = q.Unit, 0, p.Items(q.Unit, text)
			}
			known := numbers{}
			for i := from; i < q.Item; i++ {
				if x := items[i]; isLoad(x) && !yield(Load{unit, i, x, number, known.of(x.E)}) {
					return
				}
			}
			// The loads behind this pool lie in the next one.
			from = q.Item
		}
	}
}

// isLoad tells whether x has a literal.
func isLoad(x api.Item) bool {
	op, _ := isa.At(x.Inst.Op)
	return x.Kind == api.Code && op.Shape == isa.Load
}

// numbers tells by their texts the numbers of the literals of one pool that were met.
type numbers map[string]int

// of answers the number of x, which is the next one, if x was not met.
func (l numbers) of(x api.Lin) int {
	key := expr.Text(x)
	if _, ok := l[key]; !ok {
		l[key] = len(l)
	}
	return l[key]
}

// Dist answers what layout.Dist does of x in l.
func (x Load) Dist(l layout.Layout) int {
	behind := l.Text[x.Unit][x.Item] + isa.Len(x.Code.Inst)
	return LiteralAt(l, x.Pool, x.Literal) - behind
}

// LiteralAt answers the address in l of that literal of that pool.
func LiteralAt(l layout.Layout, pool, literal int) int {
	return l.Pools[pool] + poolHead + literalSize*literal
}
