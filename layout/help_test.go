package layout_test

import (
	"fmt"
	"math/rand"
	"slices"
	"strconv"
	"strings"
	"testing"

	"spandrel/api"
	"spandrel/expr"
	"spandrel/isa"
	"spandrel/layout"
	"spandrel/lex"
	"spandrel/link"
	"spandrel/unit"
)

const (
	text = 0
	data = 1
)

// unitOf answers the unit that the source says.
func unitOf(src string) api.Unit {
	u, err := unit.Assemble(src)
	if err != nil {
		panic(fmt.Sprintf("%q: %v", src, err))
	}
	return u
}

// program answers the program of units that must be one.
func program(units ...api.Unit) *link.Program {
	p, fail := link.Link(units...)
	if p == nil {
		panic(fmt.Sprintf("%s: %+v", short(units), fail))
	}
	return p
}

// linked answers the program of the sources.
func linked(srcs ...string) *link.Program {
	var units []api.Unit
	for _, s := range srcs {
		units = append(units, unitOf(s))
	}
	return program(units...)
}

// lines puts a source together.
func lines(l ...string) string {
	return strings.Join(l, "\n")
}

func nops(n int) string {
	return strings.Repeat("nop\n", n)
}

// lin answers what the text says, in which names are label words.
func lin(s string) api.Lin {
	tokens, _, why := lex.Tokens(s)
	x, bad := expr.Parse(tokens)
	if why != api.OK || bad != api.OK {
		panic(s)
	}
	return x
}

// short answers x in words, but no more of them than one reads.
func short(x any) string {
	s := fmt.Sprintf("%+v", x)
	if len(s) > 600 {
		return s[:600] + ".."
	}
	return s
}

// of answers the Layout of p by forms that it takes.
func of(t *testing.T, p *link.Program, forms ...int) layout.Layout {
	t.Helper()
	l, why := layout.Of(p, forms)
	if why != api.OK {
		t.Fatalf("by the forms %s: %v", short(forms), why)
	}
	return l
}

// same tells whether two layouts are one, nil lists and empty ones alike.
func same(a, b layout.Layout) bool {
	type ends struct{ code, start, size int }
	return (ends{a.Code, a.Start, a.Size}) == (ends{b.Code, b.Start, b.Size}) &&
		slices.EqualFunc(a.Text, b.Text, slices.Equal[[]int]) && slices.EqualFunc(a.Data, b.Data, slices.Equal[[]int]) &&
		slices.Equal(a.Pools, b.Pools) && slices.Equal(a.Labels, b.Labels)
}

// isNone tells whether l is the zero Layout, nil lists and empty ones alike.
func isNone(l layout.Layout) bool {
	return same(l, layout.Layout{})
}

// lies asks that p is laid out so by these forms, and that all that is asked of it is as the chapter says.
func lies(t *testing.T, p *link.Program, forms []int, want layout.Layout) {
	t.Helper()
	if got := of(t, p, forms...); !same(got, want) {
		t.Errorf("%s, not %s", short(got), short(want))
	}
	agrees(t, p, forms)
}

// What is asked of an item.
type answer struct {
	n  int
	ok bool
}

func disp(p *link.Program, l layout.Layout, unit, item int) answer {
	n, ok := layout.Disp(p, l, unit, item)
	return answer{int(n), ok}
}

func dist(p *link.Program, l layout.Layout, unit, item int) answer {
	n, ok := layout.Dist(p, l, unit, item)
	return answer{n, ok}
}

func spansBy(t *testing.T, p *link.Program, l layout.Layout, unit, item, want int) {
	t.Helper()
	if got := disp(p, l, unit, item); got != (answer{want, true}) {
		t.Errorf("Disp(%d, %d): %+v, not %d", unit, item, got, want)
	}
}

func loadsBy(t *testing.T, p *link.Program, l layout.Layout, unit, item, want int) {
	t.Helper()
	if got := dist(p, l, unit, item); got != (answer{want, true}) {
		t.Errorf("Dist(%d, %d): %+v, not %d", unit, item, got, want)
	}
}

func noSpan(t *testing.T, p *link.Program, l layout.Layout, unit, item int) {
	t.Helper()
	if got := disp(p, l, unit, item); got != (answer{}) {
		t.Errorf("Disp(%d, %d): %+v", unit, item, got)
	}
}

func noLoad(t *testing.T, p *link.Program, l layout.Layout, unit, item int) {
	t.Helper()
	if got := dist(p, l, unit, item); got != (answer{}) {
		t.Errorf("Dist(%d, %d): %+v", unit, item, got)
	}
}

func judged(t *testing.T, p *link.Program, l layout.Layout, want api.Errno) {
	t.Helper()
	if got := layout.Judge(p, l); got != want {
		t.Errorf("%d bytes: %v, not %v", l.Size, got, want)
	}
}

// The chapter's words, gone anew in another way: byte by byte, each byte by what has it. Slow, for few and small units.

// owner is what has a byte of the image: an item, a pool, or, as no unit's, what lies between the code and the data.
type owner struct {
	unit, section, item int
	isPool              bool
}

type told struct {
	// bytes tells of each what has it; begins tells of each owner where it begins, if it has no byte, too.
	bytes    []owner
	begins   map[owner]int
	layout   layout.Layout
	disp     map[[2]int]answer
	dist     map[[2]int]answer
	literals map[owner][]string
}

// put lays n bytes of o.
func (c *told) put(o owner, n int) {
	c.begins[o] = len(c.bytes)
	for range n {
		c.bytes = append(c.bytes, o)
	}
}

// pad lays bytes of o until there is a multiple of n.
func (c *told) pad(o owner, n int) {
	c.begins[o] = len(c.bytes)
	for len(c.bytes)%n != 0 {
		c.bytes = append(c.bytes, o)
	}
}

// sizes are the bytes of instructions by the operation's name, as chapter 5 has them; where one is not in it, two.
var sizes = map[string]int{"nop": 1, "halt": 1, "ret": 1, "zset": 3, "lis": 3, "li": 6, "ldp": 4, "jmp": 1, "call": 1, "jz": 2, "jnz": 2}

// size answers the bytes of an instruction beside its displacement, and whether it has one.
func size(x api.Item) (int, bool) {
	op, _ := isa.At(x.Inst.Op)
	n, ok := sizes[op.Name]
	if !ok {
		n = 2
	}
	return n, strings.HasPrefix(op.Name, "j") && op.Name != "jr" || op.Name == "call"
}

func isLoad(x api.Item) bool {
	op, _ := isa.At(x.Inst.Op)
	return op.Name == "ldp"
}

// poolOf answers which pool the load at that place lies in.
func poolOf(items []api.Item, unit, load int) owner {
	n := load
	for n < len(items) && items[n].Kind != api.Pool {
		n++
	}
	return owner{unit: unit, item: n, isPool: true}
}

// collect tells the literals of all pools.
func (c *told) collect(p *link.Program) {
	for n := range p.Units() {
		items := p.Items(n, text)
		for i, x := range items {
			if !isLoad(x) {
				continue
			}
			o := poolOf(items, n, i)
			if !slices.Contains(c.literals[o], expr.Text(x.E)) {
				c.literals[o] = append(c.literals[o], expr.Text(x.E))
			}
		}
	}
}

func (c *told) putPool(o owner) {
	if l := c.literals[o]; len(l) > 0 {
		c.put(o, 1+4*len(l))
		c.layout.Pools = append(c.layout.Pools, c.begins[o])
	}
}

// putItem lays x, and answers the forms that are left.
func (c *told) putItem(o owner, x api.Item, forms []int) []int {
	switch x.Kind {
	case api.Label:
		c.put(o, 0)
	case api.Code:
		n, hasForm := size(x)
		if hasForm {
			c.put(o, n+forms[0])
			return forms[1:]
		}
		c.put(o, n)
	case api.Align:
		c.pad(o, x.N)
	case api.Pool:
		c.put(o, 0)
		o.isPool = true
		c.putPool(o)
	case api.Byte:
		c.put(o, 1)
	case api.Word:
		c.put(o, 4)
	case api.Space:
		c.put(o, x.N)
	}
	return forms
}

// tell lays p by these forms, which must be such ones.
func tell(p *link.Program, forms []int) *told {
	c := &told{begins: map[owner]int{}, disp: map[[2]int]answer{}, dist: map[[2]int]answer{}, literals: map[owner][]string{}}
	c.collect(p)
	left := forms
	for n := range p.Units() {
		items := p.Items(n, text)
		for i, x := range items {
			left = c.putItem(owner{unit: n, item: i}, x, left)
		}
		c.putPool(owner{unit: n, item: len(items), isPool: true})
	}
	c.layout.Code = len(c.bytes)
	c.pad(owner{unit: -1}, 16)
	c.layout.Start = len(c.bytes)
	for n := range p.Units() {
		for i, x := range p.Items(n, data) {
			c.putItem(owner{unit: n, section: data, item: i}, x, nil)
		}
	}
	c.layout.Size = len(c.bytes)
	c.tellAddresses(p)
	c.tellWays(p, forms)
	return c
}

func (c *told) tellAddresses(p *link.Program) {
	for n := range p.Units() {
		for section, all := range []*[][]int{&c.layout.Text, &c.layout.Data} {
			var l []int
			for i := range p.Items(n, section) {
				l = append(l, c.begins[owner{unit: n, section: section, item: i}])
			}
			*all = append(*all, l)
		}
	}
	for _, x := range p.Labels() {
		c.layout.Labels = append(c.layout.Labels, c.begins[owner{unit: x.Unit, section: x.Section, item: x.Item}])
	}
}

// tellWays tells the displacements and the distances.
func (c *told) tellWays(p *link.Program, forms []int) {
	for n := range p.Units() {
		items := p.Items(n, text)
		for i, x := range items {
			if x.Kind != api.Code {
				continue
			}
			bytes, hasForm := size(x)
			behind := c.begins[owner{unit: n, item: i}] + bytes
			if hasForm {
				behind += forms[0]
				forms = forms[1:]
				c.disp[[2]int{n, i}] = answer{int(int32(c.value(x.E) - uint32(behind))), true}
			}
			if isLoad(x) {
				o := poolOf(items, n, i)
				literal := c.begins[o] + 1 + 4*slices.Index(c.literals[o], expr.Text(x.E))
				c.dist[[2]int{n, i}] = answer{literal - behind, true}
			}
		}
	}
}

// value answers x by the labels' addresses, its names looked for among all words.
func (c *told) value(x api.Lin) uint32 {
	at := map[string]uint32{}
	for _, t := range x.Terms {
		at[t.Name] = 0
	}
	for n, a := range c.layout.Labels {
		at["L"+strconv.Itoa(n)] = uint32(a)
	}
	n, _ := expr.Value(x, at)
	return n
}

func (c *told) judge() api.Errno {
	for _, a := range c.dist {
		if a.n > 4095 {
			return api.ErrReach
		}
	}
	if c.layout.Size > 1048576 {
		return api.ErrImage
	}
	return api.OK
}

// agrees holds all that is answered of p, laid out by these forms, against the chapter said anew.
func agrees(t *testing.T, p *link.Program, forms []int) {
	t.Helper()
	c := tell(p, forms)
	l := of(t, p, forms...)
	if !same(l, c.layout) {
		t.Fatalf("by %v %s, not %s", forms, short(l), short(c.layout))
	}
	for n := -1; n <= p.Units(); n++ {
		for i := -1; i <= len(p.Items(n, text))+len(p.Items(n, data))+1; i++ {
			if got, want := disp(p, l, n, i), c.disp[[2]int{n, i}]; got != want {
				t.Fatalf("Disp(%d, %d) by %v: %+v, not %+v; Text is %s", n, i, forms, got, want, short(p.Items(n, text)))
			}
			if got, want := dist(p, l, n, i), c.dist[[2]int{n, i}]; got != want {
				t.Fatalf("Dist(%d, %d) by %v: %+v, not %+v; Text is %s", n, i, forms, got, want, short(p.Items(n, text)))
			}
		}
		for _, section := range []int{text, data} {
			for _, x := range p.Items(n, section) {
				if got, want := layout.Value(l, x.E), c.value(x.E); got != want {
					t.Fatalf("Value of %+v: %d, not %d", x.E, got, want)
				}
			}
		}
	}
	judged(t, p, l, c.judge())
}

// Drawn programs.

// drawer draws sources that have labels and equs of few names.
type drawer struct {
	*rand.Rand
	// noAlign: are there to be no aligns in Text?
	noAlign bool
}

func (d drawer) of(l ...string) string {
	return l[d.Intn(len(l))]
}

func (d drawer) expression() string {
	var parts []string
	for range 1 + d.Intn(2) {
		parts = append(parts, d.of("a", "b", "x", "e", "g", "0", "5", "-a", "3*b", "-x", "0x80000000", "0xffffffff*b"))
	}
	return strings.Join(parts, "+")
}

// code answers a line of a unit's Text.
func (d drawer) code() string {
	switch d.Intn(8) {
	case 0, 1:
		return d.of("jmp ", "call ", "jz r1, ", "jnz r2, ") + d.expression()
	case 2, 3:
		return "ldp r" + strconv.Itoa(d.Intn(8)) + ", =" + d.expression()
	case 4:
		if d.noAlign {
			return "pool"
		}
		return d.of("pool", "align 2", "align 4", "align 8", "align 1", "align 256")
	case 5:
		return "li r1, " + d.expression()
	}
	return d.of("nop", "halt", "print r1", "add r1, r2", "zset z0, r1, r2", "lis r1, -3", "trap 9", "zturn z1", "zre r1, z2", "zmul z1, z2", "pool\npool", nops(30))
}

// datum answers a line of a unit's Data.
func (d drawer) datum() string {
	return d.of("byte 1", "byte 1, -2, 3", "word 5", "align 2", "align 4", "align 16", "align 128", "space 0", "space 1", "space 77", "word "+d.expression()+", 7")
}

func (d drawer) source(name string) string {
	l := []string{"equ e, a+1", "global " + name, "equ " + name + ", " + d.of("a", "3", "e-b", "x")}
	if name != "g" {
		l = append(l, "equ g, "+d.of("a", "b-b", "7"))
	}
	spots := map[int]string{d.Intn(10): "a:", 10 + d.Intn(3): "b:"}
	for i := range 13 {
		l = append(l, spots[i])
		if i < d.Intn(16) {
			l = append(l, d.code())
		}
		if d.Intn(5) == 0 {
			l = append(l, "section data", d.datum(), "section text")
		}
	}
	return lines(append(l, "section data", "x:", d.of("", d.datum(), d.datum()))...)
}

func (d drawer) program() *link.Program {
	var srcs []string
	for n := range 1 + d.Intn(3) {
		srcs = append(srcs, d.source([]string{"g", "h", "k"}[n]))
		if d.Intn(4) == 0 {
			srcs = append(srcs, d.of("", "pool", "section data\nbyte 1"))
		}
	}
	return linked(srcs...)
}

// forms draws forms for p.
func (d drawer) forms(p *link.Program) []int {
	l := make([]int, p.Spans())
	for i := range l {
		l[i] = []int{1, 2, 4}[d.Intn(3)]
	}
	return l
}

// longer draws forms none of which is shorter than that of l.
func (d drawer) longer(l []int) []int {
	out := slices.Clone(l)
	for i := range out {
		out[i] = max(out[i], []int{1, 1, 2, 4}[d.Intn(4)])
	}
	return out
}

// allForms goes over all choices of n forms.
func allForms(n int) [][]int {
	out := [][]int{nil}
	for range n {
		var more [][]int
		for _, l := range out {
			for _, form := range []int{1, 2, 4} {
				more = append(more, append(slices.Clone(l), form))
			}
		}
		out = more
	}
	return out
}
