// Package spans goes over the span instructions of a program, for the layers that ask of all of them.
package spans

import (
	"iter"

	"spandrel/api"
	"spandrel/isa"
	"spandrel/layout"
	"spandrel/link"
)

// text is the number of the section that span instructions stand in.
const text = 0

// Span is a span instruction: which item of which unit it is, and what stands there.
type Span struct {
	Unit, Item int
	Code       api.Item
}

// All goes over p's span instructions with their numbers; over none of a nil program.
func All(p *link.Program) iter.Seq2[int, Span] {
	return func(yield func(int, Span) bool) {
		if p == nil {
			return
		}
		number := 0
		for unit := range p.Units() {
			// The items are asked for unit by unit, as those of all units together may be too many to hold.
			for i, x := range p.Items(unit, text) {
				if !isSpan(x) {
					continue
				}
				if !yield(number, Span{unit, i, x}) {
					return
				}
				number++
			}
		}
	}
}

// isSpan tells whether x has a displacement.
func isSpan(x api.Item) bool {
	return x.Kind == api.Code && isa.Spans(x.Inst.Op)
}

// Len answers how many bytes s has with this form.
func (s Span) Len(form int) int {
	i := s.Code.Inst
	i.Form = form
	return isa.Len(i)
}

// Disp answers what layout.Disp does of s, which has this form in l. As layout.Disp asks the program for a unit's items each
// time, asking it of each span instruction would take time by the square of their number.
func (s Span) Disp(l layout.Layout, form int) int32 {
	behind := l.Text[s.Unit][s.Item] + s.Len(form)
	return int32(layout.Value(l, s.Code.E) - uint32(behind))
}
