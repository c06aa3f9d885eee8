package fit_test

import (
	"fmt"
	"math/rand"
	"slices"
	"strconv"
	"strings"
	"testing"

	"spandrel/api"
	"spandrel/expr"
	"spandrel/fit"
	"spandrel/isa"
	"spandrel/layout"
	"spandrel/link"
	"spandrel/unit"
)

const (
	text = 0
	data = 1
)

// unitOf answers the unit that the source says.
func unitOf(src string) api.Unit {
	u, err := unit.Assemble(src)
	if err != nil {
		panic(fmt.Sprintf("%q: %v", src, err))
	}
	return u
}

// program answers the program of units that must be one.
func program(units ...api.Unit) *link.Program {
	p, fail := link.Link(units...)
	if p == nil {
		panic(fmt.Sprintf("%s: %+v", brief(units), fail))
	}
	return p
}

// linked answers the program of the sources.
func linked(srcs ...string) *link.Program {
	var units []api.Unit
	for _, s := range srcs {
		units = append(units, unitOf(s))
	}
	return program(units...)
}

// lines puts a source together.
func lines(l ...string) string {
	return strings.Join(l, "\n")
}

// fill answers lines of n bytes of code.
func fill(n int) string {
	return strings.Repeat("li r1, 1\n", n/6) + strings.Repeat("nop\n", n%6)
}

// numbered answers a name with a number in it.
func numbered(name string, n int) string {
	return name + strconv.Itoa(n)
}

// brief answers x in words, but no more of them than one reads.
func brief(x any) string {
	s := fmt.Sprintf("%+v", x)
	if len(s) > 600 {
		return s[:600] + ".."
	}
	return s
}

// Units whose items are not read from a source.

func jump(x api.Lin) api.Item {
	return api.Item{Kind: api.Code, Inst: api.Inst{Op: 40}, E: x}
}

func label(name string) api.Item {
	return api.Item{Kind: api.Label, Name: name}
}

// named answers the Lin of a label and a number.
func named(name string, n int) api.Lin {
	return expr.Add(expr.Named(name), expr.Of(uint32(n)))
}

// filler answers items of n bytes of code.
func filler(n int) []api.Item {
	wide, _ := isa.Find("li")
	nop, _ := isa.Find("nop")
	return slices.Concat(
		slices.Repeat([]api.Item{{Kind: api.Code, Inst: api.Inst{Op: wide}}}, n/6),
		slices.Repeat([]api.Item{{Kind: api.Code, Inst: api.Inst{Op: nop}}}, n%6),
	)
}

// kind is an operation of span instructions, with a register if it has one, and its bytes beside its displacement.
type kind struct {
	name  string
	bytes int
}

func kinds() []kind {
	return []kind{{"jmp ", 1}, {"call ", 1}, {"jz r3, ", 2}, {"jnz r7, ", 2}}
}

// item answers the span instruction of that kind to that target.
func (k kind) item(x api.Lin) api.Item {
	out := unitOf(k.name + "0").Text[0]
	out.E = x
	return out
}

// same answers the form n times.
func same(form, n int) []int {
	return slices.Repeat([]int{form}, n)
}

// What is answered.

// fits asks that all reach by these forms.
func fits(t *testing.T, p *link.Program, forms ...int) {
	t.Helper()
	if is, why := fit.Fits(p, forms); !is || why != api.OK {
		t.Errorf("Fits by %s: %v, %v", brief(forms), is, why)
	}
	if n, found := fit.First(p, forms); n != 0 || found {
		t.Errorf("First by %s: %d, %v", brief(forms), n, found)
	}
}

// fails asks that not all reach by these forms, and that the one of that number is the first that does not.
func fails(t *testing.T, p *link.Program, first int, forms ...int) {
	t.Helper()
	if is, why := fit.Fits(p, forms); is || why != api.OK {
		t.Errorf("Fits by %s: %v, %v", brief(forms), is, why)
	}
	if n, found := fit.First(p, forms); n != first || !found {
		t.Errorf("First by %s: %d, %v; not %d", brief(forms), n, found, first)
	}
}

// refuses asks that there is no layout by these forms.
func refuses(t *testing.T, p *link.Program, forms ...int) {
	t.Helper()
	if is, why := fit.Fits(p, forms); is || why != api.ErrArg {
		t.Errorf("Fits by %v: %v, %v", forms, is, why)
	}
	if n, found := fit.First(p, forms); n != 0 || found {
		t.Errorf("First by %v: %d, %v", forms, n, found)
	}
}

// counts asks of how many choices Fits is true.
func counts(t *testing.T, p *link.Program, want int) {
	t.Helper()
	if n, why := fit.Count(p); n != want || why != api.OK {
		t.Errorf("Count: %d, %v; not %d", n, why, want)
	}
}

// least asks that these forms are the least.
func least(t *testing.T, p *link.Program, want ...int) {
	t.Helper()
	if forms, ok, why := fit.Least(p); !slices.Equal(forms, want) || !ok || why != api.OK {
		t.Errorf("Least: %v, %v, %v; not %v", forms, ok, why, want)
	}
}

// noLeast asks that no choice is the least.
func noLeast(t *testing.T, p *link.Program) {
	t.Helper()
	if forms, ok, why := fit.Least(p); len(forms) != 0 || ok || why != api.OK {
		t.Errorf("Least: %v, %v, %v; not none", forms, ok, why)
	}
}

// many asks that p has too many span instructions for its choices to be gone through.
func many(t *testing.T, p *link.Program) {
	t.Helper()
	if n, why := fit.Count(p); n != 0 || why != api.ErrMany {
		t.Errorf("Count: %d, %v", n, why)
	}
	if forms, ok, why := fit.Least(p); len(forms) != 0 || ok || why != api.ErrMany {
		t.Errorf("Least: %v, %v, %v", forms, ok, why)
	}
}

// The chapter's words, gone anew, each displacement asked of layout. Slow, for small units.

// holds tells whether so many bytes hold n, with its sign.
func holds(n int32, form int) bool {
	switch form {
	case 1:
		return n >= -128 && n <= 127
	case 2:
		return n >= -32768 && n <= 32767
	}
	return form == 4
}

// places answers the unit and item of each span instruction.
func places(p *link.Program) [][2]int {
	var out [][2]int
	for u := range p.Units() {
		for i, x := range p.Items(u, text) {
			// jmp, call, jz and jnz are the last operations.
			if x.Kind == api.Code && x.Inst.Op >= 40 {
				out = append(out, [2]int{u, i})
			}
		}
	}
	return out
}

// firstOf answers the number of the first of these span instructions whose displacement does not fit its form; -1, if there is none.
func firstOf(p *link.Program, spans [][2]int, forms []int) int {
	l, why := layout.Of(p, forms)
	if why != api.OK {
		panic(fmt.Sprintf("the forms %v: %v", forms, why))
	}
	for number, at := range spans {
		n, ok := layout.Disp(p, l, at[0], at[1])
		if !ok {
			panic(fmt.Sprintf("%v has no displacement", at))
		}
		if !holds(n, forms[number]) {
			return number
		}
	}
	return -1
}

// eachChoice answers all choices of a form for n span instructions.
func eachChoice(n int) [][]int {
	out := [][]int{nil}
	for range n {
		var next [][]int
		for _, c := range out {
			for _, form := range []int{1, 2, 4} {
				next = append(next, append(slices.Clone(c), form))
			}
		}
		out = next
	}
	return out
}

// isUnder tells whether a is nowhere longer than b.
func isUnder(a, b []int) bool {
	for i := range a {
		if a[i] > b[i] {
			return false
		}
	}
	return true
}

// leastOf answers the one of all that is nowhere longer than any other; false, if there is none.
func leastOf(all [][]int) ([]int, bool) {
	for _, a := range all {
		if !slices.ContainsFunc(all, func(b []int) bool { return !isUnder(a, b) }) {
			return a, true
		}
	}
	return nil, false
}

// agrees holds all that is answered of p, which has few span instructions, against the chapter said anew, by each choice, and
// answers whether there is a least one.
func agrees(t *testing.T, p *link.Program) bool {
	t.Helper()
	spans := places(p)
	var fitting [][]int
	for _, forms := range eachChoice(len(spans)) {
		if first := firstOf(p, spans, forms); first >= 0 {
			fails(t, p, first, forms...)
			continue
		}
		fits(t, p, forms...)
		fitting = append(fitting, forms)
	}
	counts(t, p, len(fitting))
	want, ok := leastOf(fitting)
	if ok {
		least(t, p, want...)
	} else {
		noLeast(t, p)
	}
	// P16.5.
	fits(t, p, same(4, len(spans))...)
	if t.Failed() {
		t.Fatalf("the Texts are %s", texts(p))
	}
	return ok
}

// texts tells the Texts of p: of each item its kind, operation and what is in it.
func texts(p *link.Program) string {
	s := ""
	for u := range p.Units() {
		s += numbered("unit ", u) + ": "
		for _, x := range p.Items(u, text) {
			op, _ := isa.At(x.Inst.Op)
			s += fmt.Sprintf("%d %s%s %s %d; ", x.Kind, x.Name, op.Name, expr.Text(x.E), x.N)
		}
	}
	return s
}

// Drawn programs.

// drawer draws sources that have labels and equs of few names; each line of code lies between a label p and a label q of its number.
type drawer struct {
	*rand.Rand
	// spans is how many span instructions there may yet be.
	spans int
}

func (d *drawer) of(l ...string) string {
	return l[d.Intn(len(l))]
}

// target draws where a span instruction goes, in a Text of so many lines.
func (d *drawer) target(most int) string {
	switch d.Intn(10) {
	case 0:
		return strconv.Itoa(d.Intn(700))
	case 1:
		return d.of("a", "b", "c") + "+" + d.of("100", "130", "-128", "32760", "-32760")
	case 2:
		return d.of("e", "2*b-a", "3*c-2*b", "200*b-199*a", "9000*(c-b)+a", "0x80000000", "-1", "0x7fffffff")
	case 3:
		return d.of("x", "y", "y-x", "g")
	case 4, 5:
		// It hangs on how long another line is.
		n := strconv.Itoa(d.Intn(most))
		return d.of("a", "b", "c") + d.of("+60", "+100", "+130", "+40000", "-100", "-20000") + "*(q" + n + "-p" + n + "-2)"
	}
	return d.of("a", "b", "c")
}

func (d *drawer) code(most int) string {
	switch d.Intn(9) {
	case 0, 1, 2, 3:
		if d.spans == 0 {
			return "nop"
		}
		d.spans--
		return kinds()[d.Intn(4)].name + d.target(most)
	case 4:
		return fill(d.Intn(130))
	case 5:
		return fill(110 + d.Intn(20))
	case 6:
		return d.of("align 2", "align 8", "align 64", "align 128", "align 256")
	case 7:
		return d.of("ldp r1, =a", "ldp r2, =7", "pool", "ldp r3, =e", "jr r1", "ret")
	}
	return d.of("lis r1, 3", "add r1, r2", "zset z1, r1, r2", "li r4, a+y", "trap 3", "zmul z1, z2")
}

func (d *drawer) source(name string) string {
	l := []string{"equ e, " + d.of("a+b-c", "c", "5", "y")}
	n := 3 + d.Intn(6)
	begin := d.Intn(n)
	for i := range n {
		if i == begin {
			l = append(l, "a:")
		}
		l = append(l, numbered("p", i)+":", d.code(n), numbered("q", i)+":")
		if i == n/2 {
			l = append(l, "b:")
		}
		if d.Intn(9) == 0 {
			l = append(l, "section data", d.of("byte 1, 2", "word a", "space 77"), "section text")
		}
	}
	l = append(l, "c:", "section data", "x:", d.of("byte 3", "word e, 5", "space 90", "space 32700", "align 64"), "y:")
	if name == "g" {
		l = append(l, "global g", "equ g, "+d.of("a", "b", "x", "0"))
	}
	return lines(l...)
}

// program draws one that has at most so many span instructions.
func (d *drawer) program(spans int) *link.Program {
	d.spans = spans
	srcs := []string{d.source("g")}
	for range d.Intn(3) {
		srcs = append(srcs, d.of("pool", "", "ldp r1, =3", "section data\nbyte 1"))
		if d.Intn(2) == 0 {
			srcs = append(srcs, d.source(""))
		}
	}
	d.Shuffle(len(srcs), func(i, j int) { srcs[i], srcs[j] = srcs[j], srcs[i] })
	return linked(srcs...)
}

// direct draws a program without align in code, the targets of which are labels of code alone, most of them just so far away
// that it hangs on the jumps between whether one byte reaches.
func (d *drawer) direct(spans int) *link.Program {
	units := make([]string, 1+d.Intn(3))
	pieces := 3 + d.Intn(spans)
	for i := range pieces {
		l := []string{"global " + numbered("l", i), numbered("l", i) + ":"}
		for spans > 0 && d.Intn(3) > 0 {
			spans--
			to := numbered("l", min(max(i+[]int{-3, -2, -2, -1, 0, 1, 2, 2, 2, 3}[d.Intn(10)], 0), pieces-1))
			alias := numbered("e", spans)
			l = append(l, kinds()[d.Intn(4)].name+d.of(to, to, to+"+l0-l0", "2*"+to+"-"+alias, alias), "equ "+alias+", "+to)
		}
		l = append(l, d.of("ldp r1, =l0", "ldp r2, =7", "pool", "li r1, l0", "jr r2", "", "", ""), fill(55+d.Intn(9)), "")
		units[i*len(units)/pieces] += lines(l...)
	}
	for i := range units {
		units[i] += "section data\n" + d.of("byte 3", "word l0, 5", "space 90", "align 64", "")
	}
	return linked(units...)
}
