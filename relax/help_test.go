package relax_test

import (
	"fmt"
	"math/rand"
	"slices"
	"strconv"
	"strings"
	"testing"

	"spandrel/api"
	"spandrel/expr"
	"spandrel/isa"
	"spandrel/layout"
	"spandrel/link"
	"spandrel/relax"
	"spandrel/unit"
)

const (
	text = 0
	data = 1
)

// unitOf answers the unit that the source says.
func unitOf(src string) api.Unit {
	u, err := unit.Assemble(src)
	if err != nil {
		panic(fmt.Sprintf("%q: %v", src, err))
	}
	return u
}

// program answers the program of units that must be one.
func program(units ...api.Unit) *link.Program {
	p, fail := link.Link(units...)
	if p == nil {
		panic(fmt.Sprintf("%s: %+v", short(units), fail))
	}
	return p
}

// linked answers the program of the sources.
func linked(srcs ...string) *link.Program {
	var units []api.Unit
	for _, s := range srcs {
		units = append(units, unitOf(s))
	}
	return program(units...)
}

// lines puts a source together.
func lines(l ...string) string {
	return strings.Join(l, "\n")
}

// fill answers lines of n bytes of code.
func fill(n int) string {
	return strings.Repeat("li r1, 1\n", n/6) + strings.Repeat("nop\n", n%6)
}

// farther is Data at whose label no form of one byte reaches.
const farther = "section data\nspace 1000\nfar:"

// short answers x in words, but no more of them than one reads.
func short(x any) string {
	s := fmt.Sprintf("%+v", x)
	if len(s) > 600 {
		return s[:600] + ".."
	}
	return s
}

// Units whose items are not read from a source.

func jump(x api.Lin) api.Item {
	return api.Item{Kind: api.Code, Inst: api.Inst{Op: 40}, E: x}
}

func label(name string) api.Item {
	return api.Item{Kind: api.Label, Name: name}
}

// filler answers items of n bytes of code.
func filler(n int) []api.Item {
	wide, _ := isa.Find("li")
	nop, _ := isa.Find("nop")
	return slices.Concat(
		slices.Repeat([]api.Item{{Kind: api.Code, Inst: api.Inst{Op: wide}}}, n/6),
		slices.Repeat([]api.Item{{Kind: api.Code, Inst: api.Inst{Op: nop}}}, n%6),
	)
}

// kind is an operation of span instructions, with a register if it has one, and its bytes beside its displacement.
type kind struct {
	name  string
	bytes int
}

func kinds() []kind {
	return []kind{{"jmp ", 1}, {"call ", 1}, {"jz r3, ", 2}, {"jnz r7, ", 2}}
}

// item answers the span instruction of that kind to that target.
func (k kind) item(target string) api.Item {
	return unitOf(k.name + target).Text[0]
}

// What is answered.

// ahead answers all that Rounds hands out.
func ahead(p *link.Program) [][]int {
	var out [][]int
	for l := range relax.Rounds(p) {
		out = append(out, l)
	}
	return out
}

func sameRounds(a, b [][]int) bool {
	return slices.EqualFunc(a, b, slices.Equal[[]int])
}

// goes asks that the forms ahead of the rounds of p are these, and that all else is as the chapter says.
func goes(t *testing.T, p *link.Program, want ...[]int) {
	t.Helper()
	if got := ahead(p); !sameRounds(got, want) {
		t.Errorf("the rounds are %s, not %s", short(got), short(want))
	}
	relaxes(t, p, len(want), want[len(want)-1]...)
	agrees(t, p)
}

// relaxes asks that p comes to these forms in so many rounds.
func relaxes(t *testing.T, p *link.Program, rounds int, want ...int) {
	t.Helper()
	forms, n, why := relax.Relax(p)
	if !slices.Equal(forms, want) || n != rounds || why != api.OK {
		t.Errorf("%s in %d rounds, %v; not %s in %d", short(forms), n, why, short(want), rounds)
	}
}

// The chapter's words, gone anew, each displacement asked of layout. Slow, for few and small units.

// holds tells whether so many bytes hold n, with its sign.
func holds(n int32, form int) bool {
	switch form {
	case 1:
		return n >= -128 && n <= 127
	case 2:
		return n >= -32768 && n <= 32767
	}
	return form == 4
}

// least answers the fewest bytes that hold n.
func least(n int32) int {
	switch {
	case holds(n, 1):
		return 1
	case holds(n, 2):
		return 2
	}
	return 4
}

// displacements answers those of all span instructions, if they have these forms.
func displacements(p *link.Program, forms []int) []int32 {
	l, why := layout.Of(p, forms)
	if why != api.OK {
		panic(fmt.Sprintf("the forms %v: %v", forms, why))
	}
	var out []int32
	for u := range p.Units() {
		for i, x := range p.Items(u, text) {
			// Asked of span instructions alone, as Disp goes over the unit each time.
			if op, _ := isa.At(x.Inst.Op); op.Shape != isa.Jump && op.Shape != isa.Branch {
				continue
			}
			n, ok := layout.Disp(p, l, u, i)
			if !ok {
				panic(fmt.Sprintf("%+v has no displacement", x))
			}
			out = append(out, n)
		}
	}
	return out
}

// tell answers the forms ahead of each round.
func tell(p *link.Program) [][]int {
	now := slices.Repeat([]int{1}, p.Spans())
	var out [][]int
	for {
		out = append(out, now)
		next := slices.Clone(now)
		for i, n := range displacements(p, now) {
			if !holds(n, now[i]) {
				next[i] = least(n)
			}
		}
		if slices.Equal(next, now) {
			return out
		}
		now = next
	}
}

// agrees holds all that is answered of p against the chapter said anew, and against what follows from it.
func agrees(t *testing.T, p *link.Program) {
	t.Helper()
	want := tell(p)
	got := ahead(p)
	if !sameRounds(got, want) {
		t.Fatalf("the rounds are %s, not %s", short(got), short(want))
	}
	relaxes(t, p, len(want), want[len(want)-1]...)
	follows(t, p, got)
}

// follows asks what P15.3 and P15.4 say of the rounds of p.
func follows(t *testing.T, p *link.Program, rounds [][]int) {
	t.Helper()
	if n := p.Spans(); len(rounds) < 1 || len(rounds) > 2*n+1 {
		t.Fatalf("%d rounds of %d span instructions", len(rounds), n)
	}
	for i := range rounds[1:] {
		for n, form := range rounds[i+1] {
			if form < rounds[i][n] {
				t.Fatalf("%v falls to %v", rounds[i], rounds[i+1])
			}
		}
	}
	forms := rounds[len(rounds)-1]
	for i, n := range displacements(p, forms) {
		if !holds(n, forms[i]) {
			t.Fatalf("%d bytes do not hold %d, the displacement %d by %s", forms[i], n, i, short(forms))
		}
	}
}

// Drawn programs.

// drawer draws sources that have labels and equs of few names; each line of code lies between a label p and a label q of its number.
type drawer struct {
	*rand.Rand
}

func (d drawer) of(l ...string) string {
	return l[d.Intn(len(l))]
}

// target draws where a span instruction goes, in a Text of so many lines.
func (d drawer) target(most int) string {
	switch d.Intn(10) {
	case 0:
		return strconv.Itoa(d.Intn(700))
	case 1:
		return d.of("a", "b", "c") + "+" + d.of("100", "130", "-128", "32760", "-32760")
	case 2:
		return d.of("e", "2*b-a", "3*c-2*b", "200*b-199*a", "9000*(c-b)+a", "0x80000000", "-1", "0x7fffffff")
	case 3:
		return d.of("x", "y", "y-x", "g")
	case 4, 5:
		// It hangs on how long another line is.
		n := strconv.Itoa(d.Intn(most))
		return d.of("a", "b", "c") + d.of("+60", "+100", "+130", "+40000", "-100", "-20000") + "*(q" + n + "-p" + n + "-2)"
	}
	return d.of("a", "b", "c")
}

func (d drawer) code(most int) string {
	switch d.Intn(10) {
	case 0, 1, 2, 3:
		return kinds()[d.Intn(4)].name + d.target(most)
	case 4, 5:
		return fill(d.Intn(130))
	case 6:
		return fill(118 + d.Intn(12))
	case 7:
		return d.of("align 2", "align 8", "align 64", "align 128", "align 256")
	case 8:
		return d.of("ldp r1, =a", "ldp r2, =7", "pool", "ldp r3, =e", "jr r1", "ret")
	}
	return d.of("lis r1, 3", "add r1, r2", "zset z1, r1, r2", "li r4, a+y", "trap 3", "zmul z1, z2")
}

func (d drawer) source(name string) string {
	l := []string{"equ e, " + d.of("a+b-c", "c", "5", "y")}
	if d.Intn(8) == 0 {
		l = append(l, "align 16")
	}
	n := 3 + d.Intn(8)
	spots := map[int]string{d.Intn(n): "a:"}
	for i := range n {
		l = append(l, spots[i], "p"+strconv.Itoa(i)+":", d.code(n), "q"+strconv.Itoa(i)+":")
		if i == n/2 {
			l = append(l, "b:")
		}
		if d.Intn(9) == 0 {
			l = append(l, "section data", d.of("byte 1, 2", "word a", "space 77"), "section text")
		}
	}
	l = append(l, "c:", "section data", "x:", d.of("byte 3", "word e, 5", "space 90", "space 32700", "align 64"), "y:")
	if name == "g" {
		l = append(l, "global g", "equ g, "+d.of("a", "b", "x", "0"))
	}
	return lines(l...)
}

func (d drawer) program() *link.Program {
	srcs := []string{d.source("g")}
	for range d.Intn(3) {
		srcs = append(srcs, d.of(d.source(""), d.source(""), "pool", "", "ldp r1, =3", "section data\nbyte 1"))
	}
	d.Shuffle(len(srcs), func(i, j int) { srcs[i], srcs[j] = srcs[j], srcs[i] })
	return linked(srcs...)
}

// named answers the Lin of a label and a number.
func named(name string, n int) api.Lin {
	return expr.Add(expr.Named(name), expr.Of(uint32(n)))
}
