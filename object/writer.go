package object

import (
	"spandrel/api"
	"spandrel/octet"
)

// writer is an object in the making.
type writer struct {
	b []byte
}

// isFull tells whether there are more bytes than an object may have.
func (w *writer) isFull() bool {
	return len(w.b) > api.MaxObject
}

// number lays n. It is put behind nothing first, as octet copies what it puts behind: all that is written, each time.
func (w *writer) number(n uint32, width int) {
	w.b = append(w.b, octet.Put(nil, n, width)...)
}

// text lays s, likewise.
func (w *writer) text(s string) {
	w.b = append(w.b, octet.PutText(nil, s)...)
}

// writeList lays how many there are of l, and each of them by one. It leaves off where the object is too long already:
// a unit may have far more than that.
func writeList[T any](w *writer, l []T, one func(T)) {
	w.number(uint32(len(l)), countWidth)
	for _, x := range l {
		if w.isFull() {
			return
		}
		one(x)
	}
}

func (w *writer) unit(u api.Unit) {
	w.b = append(w.b, head...)
	writeList(w, u.Text, w.item)
	writeList(w, u.Data, w.item)
	writeList(w, u.Equs, w.equ)
	writeList(w, u.Globals, w.text)
}

func (w *writer) item(x api.Item) {
	w.number(uint32(x.Kind), 1)
	switch x.Kind {
	case api.Label:
		w.text(x.Name)
	case api.Code:
		w.code(x)
	case api.Align, api.Byte:
		w.number(uint32(x.N), 2)
	case api.Word:
		w.lin(x.E)
	case api.Space:
		w.number(uint32(x.N), 4)
	}
}

func (w *writer) code(x api.Item) {
	w.number(uint32(x.Inst.Op), 1)
	w.number(uint32(x.Inst.A), 1)
	w.number(uint32(x.Inst.B), 1)
	w.number(uint32(x.Inst.N), 4)
	if hasExpression(x.Inst.Op) {
		w.lin(x.E)
	}
}

func (w *writer) lin(x api.Lin) {
	writeList(w, x.Terms, w.term)
	w.number(x.Const, 4)
}

func (w *writer) term(t api.Term) {
	w.text(t.Name)
	w.number(t.Coef, 4)
}

func (w *writer) equ(q api.Equ) {
	w.text(q.Name)
	w.lin(q.E)
}
