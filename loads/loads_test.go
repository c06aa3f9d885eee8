package loads_test

import (
	"fmt"
	"strings"
	"testing"

	"spandrel/api"
	"spandrel/expr"
	"spandrel/layout"
	"spandrel/link"
	"spandrel/loads"
	"spandrel/pool"
	"spandrel/unit"
)

// linked answers the program of the sources.
func linked(t *testing.T, srcs ...string) *link.Program {
	t.Helper()
	var units []api.Unit
	for _, s := range srcs {
		u, err := unit.Assemble(s)
		if err != nil {
			t.Fatalf("%q: %v", s, err)
		}
		units = append(units, u)
	}
	p, fail := link.Link(units...)
	if p == nil {
		t.Fatalf("%q: %+v", srcs, fail)
	}
	return p
}

func several(t *testing.T) *link.Program {
	return linked(t,
		"a: ldp r1, =5\nnop\nldp r2, =a\nldp r3, =5\npool\npool\nldp r4, =a\nglobal a\njmp a",
		"",
		"pool\nnop\npool",
		"ldp r5, =a-0\nalign 16\nldp r6, =5\nldp r7, =2*a\npool\nldp r0, =9\nldp r1, =8\nldp r2, =9\nldp r3, =7\nsection data\nword 1",
	)
}

func TestAll(t *testing.T) {
	got := ""
	for x := range loads.All(several(t)) {
		got += fmt.Sprintln(x.Unit, x.Item, x.Code.Inst.A, expr.Text(x.Code.E), x.Pool, x.Literal)
	}
	want := "0 1 1 5 0 0\n0 3 2 L0 0 1\n0 4 3 5 0 0\n0 7 4 L0 1 0\n" +
		"3 0 5 L0 2 0\n3 2 6 5 2 1\n3 3 7 2*L0 2 2\n3 5 0 9 3 0\n3 6 1 8 3 1\n3 7 2 9 3 0\n3 8 3 7 3 2\n"
	if got != want {
		t.Errorf("%s, not %s", got, want)
	}
}

func TestAllOfNone(t *testing.T) {
	for _, p := range []*link.Program{nil, linked(t, ""), linked(t, "nop\npool", "a: jmp a\nli r1, a\nsection data\nword a")} {
		for x := range loads.All(p) {
			t.Errorf("%+v", x)
		}
	}
}

// Left early, within a pool and at its end, and ranged over again.
func TestAllLeftEarly(t *testing.T) {
	all := loads.All(several(t))
	for most := 1; most <= 11; most++ {
		calls := 0
		all(func(loads.Load) bool {
			calls++
			return calls < most
		})
		if calls != most {
			t.Errorf("%d calls, not %d", calls, most)
		}
	}
}

// What is handed out is the program's no more.
func TestAllIsNewMemory(t *testing.T) {
	p := several(t)
	for x := range loads.All(p) {
		for i := range x.Code.E.Terms {
			x.Code.E.Terms[i].Coef = 77
		}
	}
	for x := range loads.All(p) {
		for _, term := range x.Code.E.Terms {
			if term.Coef == 77 {
				t.Errorf("%+v", x)
			}
		}
	}
}

// Against pool and layout, of each item.
func TestDist(t *testing.T) {
	p := several(t)
	for _, form := range []int{1, 2, 4} {
		l, _ := layout.Of(p, []int{form})
		next := map[[2]int]loads.Load{}
		for x := range loads.All(p) {
			next[[2]int{x.Unit, x.Item}] = x
		}
		for u := range p.Units() {
			for i := range p.Items(u, 0) {
				number, literal, isLoad := pool.Slot(p, u, i)
				x, ok := next[[2]int{u, i}]
				if ok != isLoad || x.Pool != number || x.Literal != literal {
					t.Errorf("%d, %d: %+v, %v", u, i, x, ok)
				}
				if !ok {
					continue
				}
				want, _ := layout.Dist(p, l, u, i)
				if got := x.Dist(l); got != want {
					t.Errorf("%d, %d: %d, not %d", u, i, got, want)
				}
				behind := l.Text[u][i] + 4
				if got := loads.LiteralAt(l, number, literal); got != behind+want {
					t.Errorf("the literal of %d, %d lies at %d", u, i, got)
				}
			}
		}
	}
}

// Very many in one unit, each asked for its distance.
func TestMany(t *testing.T) {
	p := linked(t, strings.Repeat("ldp r1, =1\nldp r1, =2\n", 2000))
	l, _ := layout.Of(p, nil)
	i := 0
	for x := range loads.All(p) {
		if want := 4*(3999-i) + 1 + i%2*4; x.Dist(l) != want {
			t.Fatalf("the distance %d is %d, not %d", i, x.Dist(l), want)
		}
		i++
	}
	if i != 4000 {
		t.Errorf("%d loads", i)
	}
}
