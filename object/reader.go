package object

import (
	"spandrel/api"
	"spandrel/item"
	"spandrel/octet"
	"spandrel/unit"
)

// reader goes over an object from the left. Its first refusal is kept, and what it answers behind that is thrown away.
type reader struct {
	b       []byte
	at      int
	refusal *Refusal
	// given holds the names of the labels and equs that are read.
	given map[string]struct{}
	// last is the global that was read last; empty, and so below each name, ahead of the first.
	last string
}

// refuse keeps the refusal, if it is the first.
func (r *reader) refuse(at int, why api.Errno) {
	if !r.refused() {
		r.refusal = &Refusal{At: at, Why: why}
	}
}

func (r *reader) refused() bool {
	return r.refusal != nil
}

func (r *reader) number(width int) uint32 {
	n, why := octet.Get(r.b, r.at, width)
	if why != api.OK {
		r.refuse(len(r.b), why)
		return 0
	}
	r.at += width
	return n
}

// text reads a text of any length: whether it is too long for a name is told when all that it stands in is read.
func (r *reader) text() string {
	s, behind, why := octet.GetText(r.b, r.at, maxCount)
	if why != api.OK {
		r.refuse(len(r.b), why)
		return ""
	}
	r.at = behind
	return s
}

// readList reads how many there are, most at most, and each of them by one.
func readList[T any](r *reader, most int, one func() T) []T {
	from := r.at
	n := int(r.number(countWidth))
	if n > most {
		r.refuse(from, api.ErrMany)
	}
	var l []T
	for range n {
		if r.refused() {
			return nil
		}
		l = append(l, one())
	}
	return l
}

func (r *reader) unit() api.Unit {
	var u api.Unit
	r.head()
	u.Text = readList(r, api.MaxItems, r.textItem)
	u.Data = readList(r, api.MaxItems-len(u.Text), r.dataItem)
	u.Equs = readList(r, api.MaxItems, r.equ)
	u.Globals = readList(r, maxCount, r.global)
	if r.at < len(r.b) {
		r.refuse(r.at, api.ErrTail)
	}
	return u
}

func (r *reader) head() {
	for r.at < len(head) && !r.refused() {
		if r.at == len(r.b) || r.b[r.at] != head[r.at] {
			r.refuse(r.at, api.ErrHead)
		}
		r.at++
	}
}

func (r *reader) textItem() api.Item {
	return r.item(item.Text)
}

func (r *reader) dataItem() api.Item {
	return r.item(item.Data)
}

func (r *reader) item(section int) api.Item {
	from := r.at
	x := api.Item{Kind: int(r.number(1))}
	switch x.Kind {
	case api.Label:
		x.Name = r.text()
	case api.Code:
		r.code(&x)
	case api.Align:
		x.N = int(r.number(2))
	case api.Byte:
		x.N = int(octet.Signed(r.number(2), 2))
	case api.Word:
		x.E = r.lin()
	case api.Space:
		x.N = int(r.number(4))
	}
	// What is no Kind has no fields, so that it is met at once.
	if item.Right(x, section) != api.OK || x.Kind == api.Label && !r.give(x.Name) {
		r.refuse(from, api.ErrUnit)
	}
	return x
}

func (r *reader) code(x *api.Item) {
	x.Inst.Op = int(r.number(1))
	x.Inst.A = int(r.number(1))
	x.Inst.B = int(r.number(1))
	x.Inst.N = octet.Signed(r.number(4), 4)
	if hasExpression(x.Inst.Op) {
		x.E = r.lin()
	}
}

func (r *reader) lin() api.Lin {
	terms := readList(r, maxCount, r.term)
	return api.Lin{Terms: terms, Const: r.number(4)}
}

func (r *reader) term() api.Term {
	name := r.text()
	return api.Term{Name: name, Coef: r.number(4)}
}

func (r *reader) equ() api.Equ {
	from := r.at
	name := r.text()
	q := api.Equ{Name: name, E: r.lin()}
	// An equ is right by itself just when a unit of it alone is.
	if unit.Right(api.Unit{Equs: []api.Equ{q}}) != api.OK || !r.give(q.Name) {
		r.refuse(from, api.ErrUnit)
	}
	return q
}

func (r *reader) global() string {
	from := r.at
	name := r.text()
	if _, ok := r.given[name]; !ok || name <= r.last {
		r.refuse(from, api.ErrUnit)
	}
	r.last = name
	return name
}

// give remembers that the name is given; false, if it was given ahead.
func (r *reader) give(name string) bool {
	if _, ok := r.given[name]; ok {
		return false
	}
	r.given[name] = struct{}{}
	return true
}
