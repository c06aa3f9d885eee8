package pool

import (
	"spandrel/api"
	"spandrel/expr"
)

// ldp is the number of the operation whose instructions are loads.
const ldp = 39

// isLoad tells whether x has a literal.
func isLoad(x api.Item) bool {
	return x.Kind == api.Code && x.Inst.Op == ldp
}

// stretch is the items of a unit that have one pool: those from one number on, up to that of the pool's place.
type stretch struct {
	from, end int
}

// stretches answers those of items that have loads, in order. The last one may end behind the last item.
func stretches(items []api.Item) []stretch {
	var out []stretch
	from, loads := 0, 0
	end := func(at int) {
		if loads > 0 {
			out = append(out, stretch{from: from, end: at})
		}
		from, loads = at+1, 0
	}
	for i, x := range items {
		if isLoad(x) {
			loads++
		}
		if x.Kind == api.Pool {
			end(i)
		}
	}
	end(len(items))
	return out
}

// place is where a pool lies: the numbers of its unit and of its item.
type place [2]int

// literal is an expression in a pool.
type literal struct {
	pool place
	// text is the expression's, as a Lin has a list in it and is no key. Each Lin has a text of its own.
	text string
}

func literalIn(pool place, x api.Lin) literal {
	return literal{pool: pool, text: expr.Text(x)}
}

// met tells of each literal that was met its number in its pool.
type met map[literal]int

// lay answers the literals of that pool, which are those of the loads of a stretch, each once, in the order in which they are met first.
func (known met) lay(pool place, items []api.Item) []api.Lin {
	var out []api.Lin
	for _, x := range items {
		if !isLoad(x) {
			continue
		}
		l := literalIn(pool, x.E)
		if _, ok := known[l]; !ok {
			known[l] = len(out)
			out = append(out, x.E)
		}
	}
	return out
}
