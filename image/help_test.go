package image_test

import (
	"bytes"
	"fmt"
	"math/rand"
	"slices"
	"strconv"
	"strings"
	"testing"

	"spandrel/api"
	"spandrel/decode"
	"spandrel/encode"
	"spandrel/expr"
	"spandrel/image"
	"spandrel/isa"
	"spandrel/layout"
	"spandrel/link"
	"spandrel/unit"
)

const (
	text = 0
	data = 1
)

// unitOf answers the unit that the source says.
func unitOf(src string) api.Unit {
	u, err := unit.Assemble(src)
	if err != nil {
		panic(fmt.Sprintf("%s: %v", short(src), err))
	}
	return u
}

// program answers the program of units that must be one.
func program(units ...api.Unit) *link.Program {
	p, fail := link.Link(units...)
	if p == nil {
		panic(fmt.Sprintf("%s: %+v", short(units), fail))
	}
	return p
}

// linked answers the program of the sources.
func linked(srcs ...string) *link.Program {
	var units []api.Unit
	for _, s := range srcs {
		units = append(units, unitOf(s))
	}
	return program(units...)
}

// lines puts a source together.
func lines(l ...string) string {
	return strings.Join(l, "\n")
}

func nops(n int) string {
	return strings.Repeat("nop\n", n)
}

// fill answers lines of n bytes of code, fewer lines than nops would be.
func fill(n int) string {
	return strings.Repeat("li r1, 1\n", n/6) + nops(n%6)
}

// filled are the bytes of fill(n).
func filled(n int) string {
	return strings.Repeat(" 32 01 01 00 00 00", n/6) + " 00x" + strconv.Itoa(n%6) + " "
}

// short answers x in words, but no more of them than one reads.
func short(x any) string {
	s := fmt.Sprintf("%+v", x)
	if len(s) > 600 {
		return s[:600] + ".."
	}
	return s
}

// octets answers the bytes that are written in s by two digits each, or, as 00x14, several times.
func octets(s string) []byte {
	var out []byte
	for _, word := range strings.Fields(s) {
		digits, times, _ := strings.Cut(word, "x")
		n, err := strconv.ParseUint(digits, 16, 8)
		if err != nil {
			panic(s)
		}
		many := 1
		if times != "" {
			if many, err = strconv.Atoi(times); err != nil {
				panic(s)
			}
		}
		out = append(out, bytes.Repeat([]byte{byte(n)}, many)...)
	}
	return out
}

// whole answers code, noughts to a multiple of 16, and data behind them.
func whole(code, data string) []byte {
	out := octets(code)
	for len(out)%16 != 0 {
		out = append(out, 0)
	}
	return append(out, octets(data)...)
}

// opOf answers the number of the operation with that name.
func opOf(name string) int {
	op, ok := isa.Find(name)
	if !ok {
		panic(name)
	}
	return op
}

// Items that are not read from a source.

func label(name string) api.Item {
	return api.Item{Kind: api.Label, Name: name}
}

// code answers a Code with that expression.
func code(name string, x api.Lin) api.Item {
	return api.Item{Kind: api.Code, Inst: api.Inst{Op: opOf(name)}, E: x}
}

// named answers the Lin of a label and a number.
func named(name string, n int) api.Lin {
	return expr.Add(expr.Named(name), expr.Of(uint32(n)))
}

// filler answers items of n bytes of code, which are more than the lines of a source may be.
func filler(n int) []api.Item {
	return slices.Concat(slices.Repeat([]api.Item{code("li", api.Lin{})}, n/6), slices.Repeat([]api.Item{code("nop", api.Lin{})}, n%6))
}

// same answers the form n times.
func same(form, n int) []int {
	return slices.Repeat([]int{form}, n)
}

// allForms goes over all choices of n forms.
func allForms(n int) [][]int {
	out := [][]int{nil}
	for range n {
		var more [][]int
		for _, l := range out {
			for _, form := range []int{1, 2, 4} {
				more = append(more, append(slices.Clone(l), form))
			}
		}
		out = more
	}
	return out
}

// What is answered.

// with answers the image of p by forms by which there is one.
func with(t *testing.T, p *link.Program, forms ...int) *image.Image {
	t.Helper()
	m, why := image.With(p, forms)
	if m == nil || why != api.OK {
		t.Fatalf("With by %s: %v, %v", short(forms), m != nil, why)
	}
	return m
}

// build answers the image of p, which must have one.
func build(t *testing.T, p *link.Program) *image.Image {
	t.Helper()
	m, why := image.Build(p)
	if m == nil || why != api.OK {
		t.Fatalf("Build: %v, %v", m != nil, why)
	}
	return m
}

// refused asks that there is no image by these forms, and why.
func refused(t *testing.T, p *link.Program, want api.Errno, forms ...int) {
	t.Helper()
	if m, why := image.With(p, forms); m != nil || why != want {
		t.Errorf("With by %s: %v, %v, not %v", short(forms), m != nil, why, want)
	}
}

// unbuilt asks that p has no image, and why.
func unbuilt(t *testing.T, p *link.Program, want api.Errno) {
	t.Helper()
	if m, why := image.Build(p); m != nil || why != want {
		t.Errorf("Build: %v, %v, not %v", m != nil, why, want)
	}
}

// is asks that the image of p by these forms has these bytes, and that all that is asked of it is as the chapter says.
func is(t *testing.T, p *link.Program, forms []int, code, data string) {
	t.Helper()
	if got, want := with(t, p, forms...).Bytes(), whole(code, data); !bytes.Equal(got, want) {
		t.Errorf("% x, not % x", got, want)
	}
	agrees(t, p, forms)
}

// builds asks the same of the image that Build answers.
func builds(t *testing.T, p *link.Program, code, data string) {
	t.Helper()
	m := build(t, p)
	if got, want := m.Bytes(), whole(code, data); !bytes.Equal(got, want) {
		t.Errorf("% x, not % x", got, want)
	}
	holds(t, m, p, m.Forms())
}

// becomes asks that the Code at that place becomes that instruction.
func becomes(t *testing.T, m *image.Image, unit, item int, want api.Inst) {
	t.Helper()
	if got, ok := m.Inst(unit, item); got != want || !ok {
		t.Errorf("Inst(%d, %d): %+v, %v, not %+v", unit, item, got, ok, want)
	}
}

func noCode(t *testing.T, m *image.Image, unit, item int) {
	t.Helper()
	if got, ok := m.Inst(unit, item); got != (api.Inst{}) || ok {
		t.Errorf("Inst(%d, %d): %+v, %v", unit, item, got, ok)
	}
}

func liesAt(t *testing.T, m *image.Image, at int, want image.Place) {
	t.Helper()
	if got, ok := m.Where(at); got != want || !ok {
		t.Errorf("Where(%d): %+v, %v, not %+v", at, got, ok, want)
	}
}

func nothingAt(t *testing.T, m *image.Image, at int) {
	t.Helper()
	if got, ok := m.Where(at); got != (image.Place{}) || ok {
		t.Errorf("Where(%d): %+v, %v", at, got, ok)
	}
}

// sameLayouts tells whether two layouts are one, nil lists and empty ones alike.
func sameLayouts(a, b layout.Layout) bool {
	type ends struct{ code, start, size int }
	return (ends{a.Code, a.Start, a.Size}) == (ends{b.Code, b.Start, b.Size}) &&
		slices.EqualFunc(a.Text, b.Text, slices.Equal[[]int]) && slices.EqualFunc(a.Data, b.Data, slices.Equal[[]int]) &&
		slices.Equal(a.Pools, b.Pools) && slices.Equal(a.Labels, b.Labels)
}

// The chapter's words, gone anew: the bytes one behind the other, each number asked of layout. Slow, for few and small units.

// told is what an image has.
type told struct {
	program *link.Program
	layout  layout.Layout
	bytes   []byte
	insts   map[image.Place]api.Inst
	starts  map[int]image.Place
	// left are the forms of the span instructions that come next.
	left []int
}

// tell tells the image of p by these forms, which must be such ones.
func tell(p *link.Program, forms []int) *told {
	l, why := layout.Of(p, forms)
	if why != api.OK {
		panic(fmt.Sprintf("the forms %v: %v", forms, why))
	}
	c := &told{program: p, layout: l, insts: map[image.Place]api.Inst{}, starts: map[int]image.Place{}, left: forms}
	for u := range p.Units() {
		c.tellText(u)
	}
	c.pad(16)
	c.isAt(l.Start)
	for u := range p.Units() {
		for i, x := range p.Items(u, data) {
			c.isAt(l.Data[u][i])
			c.tellDatum(x)
		}
	}
	c.isAt(l.Size)
	return c
}

// isAt asks that this address is the one behind all that is told.
func (c *told) isAt(at int) {
	if at != len(c.bytes) {
		panic(fmt.Sprintf("at %d there are %d bytes", at, len(c.bytes)))
	}
}

// pad lays noughts until there is a multiple of n.
func (c *told) pad(n int) {
	for len(c.bytes)%n != 0 {
		c.bytes = append(c.bytes, 0)
	}
}

func (c *told) tellText(u int) {
	var literals []api.Lin
	end := func() {
		if len(literals) > 0 {
			c.bytes = append(c.bytes, 255)
		}
		for _, x := range literals {
			c.tellWord(x)
		}
		literals = nil
	}
	for i, x := range c.program.Items(u, text) {
		c.isAt(c.layout.Text[u][i])
		switch x.Kind {
		case api.Code:
			at := image.Place{Unit: u, Item: i}
			c.insts[at], c.starts[len(c.bytes)] = c.instOf(at, x), at
			b, why := encode.Encode(c.insts[at])
			if why != api.OK {
				panic(fmt.Sprintf("%+v: %v", c.insts[at], why))
			}
			c.bytes = append(c.bytes, b...)
			if isa.Ops()[x.Inst.Op-1].Name == "ldp" && !slices.ContainsFunc(literals, func(y api.Lin) bool { return expr.Same(x.E, y) }) {
				literals = append(literals, x.E)
			}
		case api.Align:
			c.pad(x.N)
		case api.Pool:
			end()
		}
	}
	end()
}

// instOf answers what the Code at that place becomes.
func (c *told) instOf(at image.Place, x api.Item) api.Inst {
	out := x.Inst
	switch isa.Ops()[x.Inst.Op-1].Name {
	case "li":
		out.N = int32(layout.Value(c.layout, x.E))
	case "ldp":
		n, ok := layout.Dist(c.program, c.layout, at.Unit, at.Item)
		if !ok {
			panic(fmt.Sprintf("%+v has no distance", x))
		}
		out.N = int32(n)
	case "jmp", "call", "jz", "jnz":
		n, ok := layout.Disp(c.program, c.layout, at.Unit, at.Item)
		if !ok {
			panic(fmt.Sprintf("%+v has no displacement", x))
		}
		out.N, out.Form, c.left = n, c.left[0], c.left[1:]
	}
	return out
}

func (c *told) tellDatum(x api.Item) {
	switch x.Kind {
	case api.Byte:
		c.bytes = append(c.bytes, byte(x.N))
	case api.Word:
		c.tellWord(x.E)
	case api.Align:
		c.pad(x.N)
	case api.Space:
		c.bytes = append(c.bytes, make([]byte, x.N)...)
	}
}

func (c *told) tellWord(x api.Lin) {
	n := layout.Value(c.layout, x)
	c.bytes = append(c.bytes, byte(n), byte(n>>8), byte(n>>16), byte(n>>24))
}

// reaches tells whether so many bytes hold n, with its sign.
func reaches(n int32, form int) bool {
	switch form {
	case 1:
		return n >= -128 && n <= 127
	case 2:
		return n >= -32768 && n <= 32767
	}
	return form == 4
}

// why answers with what p is refused by these forms.
func why(p *link.Program, forms []int) api.Errno {
	l, no := layout.Of(p, forms)
	if no != api.OK {
		return no
	}
	number := 0
	for u := range p.Units() {
		for i, x := range p.Items(u, text) {
			// Asked of span instructions alone, as Disp goes over the unit each time.
			if op, _ := isa.At(x.Inst.Op); op.Shape != isa.Jump && op.Shape != isa.Branch {
				continue
			}
			if n, ok := layout.Disp(p, l, u, i); !ok || !reaches(n, forms[number]) {
				return api.ErrForm
			}
			number++
		}
	}
	return layout.Judge(p, l)
}

// agrees holds what With answers of p by these forms against the chapter said anew, and tells whether there is an image.
func agrees(t *testing.T, p *link.Program, forms []int) bool {
	t.Helper()
	if want := why(p, forms); want != api.OK {
		refused(t, p, want, forms...)
		return false
	}
	holds(t, with(t, p, forms...), p, forms)
	return true
}

// holds holds all that m answers, which was built of p by these forms, against the chapter said anew.
func holds(t *testing.T, m *image.Image, p *link.Program, forms []int) {
	t.Helper()
	c := tell(p, forms)
	if got := m.Bytes(); !bytes.Equal(got, c.bytes) {
		t.Fatalf("by %v % x, not % x", forms, got, c.bytes)
	}
	if got := m.Layout(); !sameLayouts(got, c.layout) {
		t.Fatalf("%s, not %s", short(got), short(c.layout))
	}
	if !slices.Equal(m.Forms(), forms) || m.Program() != p {
		t.Fatalf("by %v the forms are %v", forms, m.Forms())
	}
	for u := -1; u <= p.Units(); u++ {
		items := len(p.Items(u, text)) + len(p.Items(u, data))
		for i := -1; i <= items+1; i++ {
			want, isCode := c.insts[image.Place{Unit: u, Item: i}]
			if got, ok := m.Inst(u, i); got != want || ok != isCode {
				t.Fatalf("Inst(%d, %d) by %v: %+v, %v, not %+v", u, i, forms, got, ok, want)
			}
		}
	}
	for at := -1; at <= len(c.bytes)+1; at++ {
		want, isCode := c.starts[at]
		if got, ok := m.Where(at); got != want || ok != isCode {
			t.Fatalf("Where(%d) by %v: %+v, %v, not %+v", at, forms, got, ok, want)
		}
	}
	decodes(t, m)
}

// decodes asks what P17.5 says of m.
func decodes(t *testing.T, m *image.Image) {
	t.Helper()
	p, l, b := m.Program(), m.Layout(), m.Bytes()
	for u := range p.Units() {
		for i, x := range p.Items(u, text) {
			if x.Kind != api.Code {
				continue
			}
			want, _ := m.Inst(u, i)
			got, n, why := decode.Decode(b, l.Text[u][i])
			if got != want || why != api.OK {
				t.Fatalf("at %d stands %+v, %v, not %+v", l.Text[u][i], got, why, want)
			}
			if i+1 < len(l.Text[u]) && l.Text[u][i+1] != l.Text[u][i]+n {
				t.Fatalf("%d bytes at %d lead not to %d", n, l.Text[u][i], l.Text[u][i+1])
			}
		}
	}
}

// Drawn programs.

// drawer draws sources that have labels and equs of few names.
type drawer struct {
	*rand.Rand
}

func (d drawer) of(l ...string) string {
	return l[d.Intn(len(l))]
}

func (d drawer) expression() string {
	var parts []string
	for range 1 + d.Intn(2) {
		parts = append(parts, d.of("a", "b", "x", "e", "g", "0", "5", "-a", "3*b", "-x", "y-x", "0x80000000", "0xffffffff*b", "-70000"))
	}
	return strings.Join(parts, "+")
}

// target draws where a span instruction goes.
func (d drawer) target() string {
	if d.Intn(5) == 0 {
		return d.expression()
	}
	return d.of("a", "b", "e", "g", "x", "0", "100")
}

// codeLine answers a line of a unit's Text.
func (d drawer) codeLine() string {
	switch d.Intn(9) {
	case 0, 1, 2:
		return d.of("jmp ", "call ", "jz r1, ", "jnz r2, ") + d.target()
	case 3, 4:
		return "ldp r" + strconv.Itoa(d.Intn(8)) + ", =" + d.expression()
	case 5:
		return d.of("pool", "align 2", "align 4", "align 8", "align 1", "align 256")
	case 6:
		return "li r" + strconv.Itoa(d.Intn(8)) + ", " + d.expression()
	case 7:
		return d.of(nops(30), fill(60), fill(126), nops(2))
	}
	return d.of("nop", "halt", "print r1", "add r1, r2", "zset z0, r1, r2", "lis r1, -3", "trap 9", "zturn z1", "zre r1, z2", "zmul z1, z2", "pool\npool", "ret", "jr r7")
}

// datum answers a line of a unit's Data.
func (d drawer) datum() string {
	return d.of("byte 1", "byte -1, 255, -128", "word 5", "align 2", "align 4", "align 16", "align 128", "space 0", "space 1", "space 77", "word "+d.expression()+", 7", "word "+d.expression())
}

func (d drawer) source(name string) string {
	l := []string{"equ e, a+1", "global " + name, "equ " + name + ", " + d.of("a", "3", "e-b", "x")}
	if name != "g" {
		l = append(l, "equ g, "+d.of("a", "b-b", "7", "b"))
	}
	spots := map[int]string{d.Intn(8): "a:", 8 + d.Intn(3): "b:"}
	for i := range 11 {
		l = append(l, spots[i])
		if i < d.Intn(14) {
			l = append(l, d.codeLine())
		}
		if d.Intn(5) == 0 {
			l = append(l, "section data", d.datum(), "section text")
		}
	}
	return lines(append(l, "section data", "x:", d.of("", d.datum(), d.datum()), "y:")...)
}

func (d drawer) program() *link.Program {
	var srcs []string
	for n := range 1 + d.Intn(3) {
		srcs = append(srcs, d.source([]string{"g", "h", "k"}[n]))
		if d.Intn(4) == 0 {
			srcs = append(srcs, d.of("", "pool", "section data\nbyte 1", "ldp r3, =3"))
		}
	}
	d.Shuffle(len(srcs), func(i, j int) { srcs[i], srcs[j] = srcs[j], srcs[i] })
	return linked(srcs...)
}

// forms draws forms for p, most of them such that all reach.
func (d drawer) forms(p *link.Program) []int {
	l := make([]int, p.Spans())
	least := []int{0, 0, 0, 2}[d.Intn(4)]
	for i := range l {
		l[i] = []int{1, 2, 4, 4}[least+d.Intn(4-least)]
	}
	return l
}
