package fit

import (
	"iter"
	"strconv"
	"strings"

	"spandrel/api"
	"spandrel/isa"
	"spandrel/layout"
	"spandrel/link"
	"spandrel/spans"
)

// text is the number of the section that span instructions stand in.
const text = 0

// labelSign is what label words begin with; the label's number stands behind it.
const labelSign = "L"

// eachForm are the forms that a span instruction may have.
var eachForm = [...]int{1, 2, 4}

// choice is a form for each span instruction.
type choice []int

// search asks of the choices of one program. A program is cut by its span instructions into stretches: the one ahead of the
// first, those between, and the one behind the last, with all data. Where all of a stretch lies hangs on where the stretch
// begins alone, and most choices let it begin where others do, so that few of them need a layout of their own.
type search struct {
	program *link.Program
	spans   []spans.Span
	// parts are the pieces of the targets, by stretch: those of the labels that stand there.
	parts [][mostSpans]api.Lin
	known map[start]stretch
}

// start is the number of a stretch and the address that it begins at.
type start struct {
	number, at int
}

// stretch is where one ends, which is where the next span instruction lies, and what its labels give to each target.
type stretch struct {
	end    int
	values sums
}

// sums are numbers for each span instruction, modulo 2^32.
type sums [mostSpans]uint32

func (s *sums) add(l sums) {
	for n, value := range l {
		s[n] += value
	}
}

// searchOf answers a search through the choices of p, or why they are not gone through.
func searchOf(p *link.Program) (*search, api.Errno) {
	switch {
	case p == nil:
		return nil, api.ErrArg
	case p.Spans() > mostSpans:
		return nil, api.ErrMany
	}
	s := &search{program: p, known: map[start]stretch{}}
	for _, x := range spans.All(p) {
		s.spans = append(s.spans, x)
	}
	s.cutTargets(p.Labels())
	return s, api.OK
}

// cutTargets cuts the targets into the pieces of each stretch.
func (s *search) cutTargets(labels []link.Label) {
	s.parts = make([][mostSpans]api.Lin, len(s.spans)+1)
	for n, x := range s.spans {
		// The number hangs on no label, so that any stretch may have it.
		s.parts[0][n].Const = x.Code.E.Const
		for _, t := range x.Code.E.Terms {
			label, err := strconv.Atoi(strings.TrimPrefix(t.Name, labelSign))
			if err != nil || label >= len(labels) {
				continue
			}
			piece := &s.parts[s.stretchOf(labels[label])][n]
			piece.Terms = append(piece.Terms, t)
		}
	}
}

// stretchOf answers the number of the stretch that l stands in: how many span instructions lie ahead of it.
func (s *search) stretchOf(l link.Label) int {
	number := 0
	for _, x := range s.spans {
		if l.Section != text || x.Unit < l.Unit || x.Unit == l.Unit && x.Item < l.Item {
			number++
		}
	}
	return number
}

// choices goes over the choices of which ask is true.
func (s *search) choices(ask func(choice, *search) bool) iter.Seq[choice] {
	return func(yield func(choice) bool) {
		many := 1
		for range s.spans {
			many *= len(eachForm)
		}
		for number := range many {
			c := choiceOf(number, len(s.spans))
			if ask(c, s) && !yield(c) {
				return
			}
		}
	}
}

// choiceOf answers the choice of that number: its forms stand for the number's digits, the lowest first.
func choiceOf(number, size int) choice {
	c := make(choice, size)
	for n := range c {
		c[n] = eachForm[number%len(eachForm)]
		number /= len(eachForm)
	}
	return c
}

// fits tells whether each displacement fits its form, if the span instructions of s have those of c.
func (c choice) fits(s *search) bool {
	var far sums
	begin := start{}
	for n, form := range c {
		here := s.stretchFrom(begin, c)
		far.add(here.values)
		begin = start{n + 1, here.end + s.spans[n].Len(form)}
		far[n] -= uint32(begin.at)
	}
	far.add(s.stretchFrom(begin, c).values)
	for n, form := range c {
		if !isa.Reaches(int32(far[n]), form) {
			return false
		}
	}
	return true
}

// stretchFrom answers the stretch that, by the choice c, begins there.
func (s *search) stretchFrom(begin start, c choice) stretch {
	if _, ok := s.known[begin]; !ok {
		s.learn(c)
	}
	return s.known[begin]
}

// learn keeps all stretches as they lie by the choice c.
func (s *search) learn(c choice) {
	l, _ := layout.Of(s.program, c)
	begin := start{}
	for n, form := range c {
		end := l.Text[s.spans[n].Unit][s.spans[n].Item]
		s.known[begin] = stretch{end, s.valuesIn(l, n)}
		begin = start{n + 1, end + s.spans[n].Len(form)}
	}
	s.known[begin] = stretch{values: s.valuesIn(l, len(c))}
}

// valuesIn answers what the labels of that stretch give to each target, where they lie as l says.
func (s *search) valuesIn(l layout.Layout, number int) sums {
	var out sums
	for n, piece := range s.parts[number] {
		out[n] = layout.Value(l, piece)
	}
	return out
}
