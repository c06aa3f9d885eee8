package image

import (
	"spandrel/api"
	"spandrel/isa"
	"spandrel/layout"
	"spandrel/loads"
	"spandrel/spans"
)

// code is a Code of an image: its place, its address, and the instruction that it becomes.
type code struct {
	place Place
	at    int
	inst  api.Inst
}

// displacements answers those of all span instructions; false, if one does not fit its form.
func (b built) displacements() ([]int32, bool) {
	var out []int32
	for number, s := range spans.All(b.program) {
		n := s.Disp(b.layout, b.forms[number])
		if !isa.Reaches(n, b.forms[number]) {
			return nil, false
		}
		out = append(out, n)
	}
	return out, true
}

// distances answers those of all loads.
func (b built) distances() []int32 {
	var out []int32
	for x := range loads.All(b.program) {
		out = append(out, int32(x.Dist(b.layout)))
	}
	return out
}

// codes answers all Codes, of whose span instructions these are the displacements.
func (b built) codes(displacements []int32) []code {
	f := filler{built: b, displacements: displacements, distances: b.distances()}
	var out []code
	for unit := range b.program.Units() {
		for i, x := range b.program.Items(unit, text) {
			if x.Kind == api.Code {
				out = append(out, code{place: Place{unit, i}, at: b.layout.Text[unit][i], inst: f.fill(x)})
			}
		}
	}
	return out
}

// filler fills Codes, one behind the other, with the numbers that they have where they lie.
type filler struct {
	built
	displacements, distances []int32
	// span and load are the numbers of the span instruction and of the load that come next.
	span, load int
}

// fill answers the instruction that x becomes.
func (f *filler) fill(x api.Item) api.Inst {
	i := x.Inst
	op, _ := isa.At(i.Op)
	switch op.Shape {
	case isa.Wide:
		i.N = int32(layout.Value(f.layout, x.E))
	case isa.Load:
		i.N = f.distances[f.load]
		f.load++
	case isa.Jump, isa.Branch:
		i.N, i.Form = f.displacements[f.span], f.forms[f.span]
		f.span++
	}
	return i
}
