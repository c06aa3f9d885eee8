package spans_test

import (
	"fmt"
	"slices"
	"strings"
	"testing"

	"spandrel/api"
	"spandrel/layout"
	"spandrel/link"
	"spandrel/spans"
	"spandrel/unit"
)

// linked answers the program of the sources.
func linked(t *testing.T, srcs ...string) *link.Program {
	t.Helper()
	var units []api.Unit
	for _, s := range srcs {
		u, err := unit.Assemble(s)
		if err != nil {
			t.Fatalf("%q: %v", s, err)
		}
		units = append(units, u)
	}
	p, fail := link.Link(units...)
	if p == nil {
		t.Fatalf("%q: %+v", srcs, fail)
	}
	return p
}

func several(t *testing.T) *link.Program {
	return linked(t,
		"a: jmp b\nnop\nldp r1, =a\nglobal a\ncall d",
		"",
		"jr r1\nalign 16\nb: jz r3, a\npool\nglobal b\nsection data\nword a\nd: byte 1\nglobal d",
		"nop\njnz r7, 2*a-b+5\nret",
	)
}

func TestAll(t *testing.T) {
	got := ""
	for n, s := range spans.All(several(t)) {
		got += fmt.Sprint(n, ": ", s.Unit, " ", s.Item, " ", s.Code.Inst.Op, " ", s.Code.Inst.A, " ", s.Code.E, "\n")
	}
	want := "0: 0 1 40 0 {[{L1 1}] 0}\n1: 0 4 41 0 {[{L2 1}] 0}\n2: 2 3 42 3 {[{L0 1}] 0}\n3: 3 1 43 7 {[{L0 2} {L1 4294967295}] 5}\n"
	if got != want {
		t.Errorf("%s, not %s", got, want)
	}
}

func TestAllOfNone(t *testing.T) {
	for _, p := range []*link.Program{nil, linked(t, ""), linked(t, "nop\njr r1\nret", "a: ldp r1, =a\nsection data\nword a")} {
		for n, s := range spans.All(p) {
			t.Errorf("%d: %+v", n, s)
		}
	}
}

// Left early, within one unit and at its end, and ranged over again.
func TestAllLeftEarly(t *testing.T) {
	all := spans.All(several(t))
	for most := 1; most <= 4; most++ {
		calls := 0
		all(func(n int, _ spans.Span) bool {
			if n != calls {
				t.Errorf("number %d in call %d", n, calls)
			}
			calls++
			return calls < most
		})
		if calls != most {
			t.Errorf("%d calls, not %d", calls, most)
		}
	}
}

// What is handed out is the program's no more.
func TestAllIsNewMemory(t *testing.T) {
	p := several(t)
	for _, s := range spans.All(p) {
		for i := range s.Code.E.Terms {
			s.Code.E.Terms[i].Coef = 77
		}
	}
	for _, s := range spans.All(p) {
		for _, x := range s.Code.E.Terms {
			if x.Coef == 77 {
				t.Errorf("%+v", s)
			}
		}
	}
}

func TestLenAndDisp(t *testing.T) {
	p := several(t)
	for _, forms := range [][]int{{1, 1, 1, 1}, {2, 1, 4, 2}, {4, 4, 2, 1}, {4, 4, 4, 4}} {
		l, _ := layout.Of(p, forms)
		var lens []int
		for n, s := range spans.All(p) {
			lens = append(lens, s.Len(forms[n])-forms[n])
			if want, ok := layout.Disp(p, l, s.Unit, s.Item); !ok || s.Disp(l, forms[n]) != want {
				t.Errorf("the displacement %d by %v is %d, not %d", n, forms, s.Disp(l, forms[n]), want)
			}
		}
		if !slices.Equal(lens, []int{1, 1, 2, 2}) {
			t.Errorf("%v bytes beside the forms", lens)
		}
	}
}

// Very many in one unit, each asked for its displacement.
func TestMany(t *testing.T) {
	p := linked(t, "a:\n"+strings.Repeat("jmp a\n", 4000))
	l, _ := layout.Of(p, slices.Repeat([]int{4}, 4000))
	last := 0
	for n, s := range spans.All(p) {
		if got := s.Disp(l, 4); got != int32(-5*(n+1)) {
			t.Fatalf("the displacement %d is %d", n, got)
		}
		last = n
	}
	if last != 3999 {
		t.Errorf("the last is %d", last)
	}
}
