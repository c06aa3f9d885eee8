package pool_test

import (
	"fmt"
	"math/rand"
	"slices"
	"strconv"
	"strings"
	"testing"

	"spandrel/api"
	"spandrel/expr"
	"spandrel/isa"
	"spandrel/lex"
	"spandrel/link"
	"spandrel/pool"
	"spandrel/unit"
)

const (
	text = 0
	data = 1
)

// unitOf answers the unit that the source says.
func unitOf(src string) api.Unit {
	u, err := unit.Assemble(src)
	if err != nil {
		panic(fmt.Sprintf("%q: %v", src, err))
	}
	return u
}

// program answers the program of units that must be one.
func program(units ...api.Unit) *link.Program {
	p, fail := link.Link(units...)
	if p == nil {
		panic(fmt.Sprintf("%s: %+v", short(units), fail))
	}
	return p
}

// linked answers the program of the sources.
func linked(srcs ...string) *link.Program {
	var units []api.Unit
	for _, s := range srcs {
		units = append(units, unitOf(s))
	}
	return program(units...)
}

// lines puts a source together.
func lines(l ...string) string {
	return strings.Join(l, "\n")
}

// lin answers what the text says, in which names are label words.
func lin(s string) api.Lin {
	tokens, _, why := lex.Tokens(s)
	x, bad := expr.Parse(tokens)
	if why != api.OK || bad != api.OK {
		panic(s)
	}
	return x
}

// at answers a pool with these literals, in terms of label words.
func at(unit, item int, literals ...string) pool.Pool {
	p := pool.Pool{Unit: unit, Item: item}
	for _, s := range literals {
		p.Literals = append(p.Literals, lin(s))
	}
	return p
}

// short answers x in words, but no more of them than one reads.
func short(x any) string {
	s := fmt.Sprintf("%+v", x)
	if len(s) > 600 {
		return s[:600] + ".."
	}
	return s
}

func samePool(a, b pool.Pool) bool {
	return a.Unit == b.Unit && a.Item == b.Item && slices.EqualFunc(a.Literals, b.Literals, expr.Same)
}

// has asks that these are the pools of p, and that all that Slot answers is what they ask for.
func has(t *testing.T, p *link.Program, want ...pool.Pool) {
	t.Helper()
	if got := pool.Pools(p); !slices.EqualFunc(got, want, samePool) {
		t.Errorf("the pools are %s, not %s", short(got), short(want))
	}
	if got := tell(p).pools; !slices.EqualFunc(got, want, samePool) {
		t.Errorf("by the chapter's words the pools are %s, not %s", short(got), short(want))
	}
	agrees(t, p)
}

// slot is what Slot answers.
type slot struct {
	pool, literal int
	ok            bool
}

func slotOf(p *link.Program, unit, item int) slot {
	n, k, ok := pool.Slot(p, unit, item)
	return slot{n, k, ok}
}

// lies asks that the load that is that item lies there.
func lies(t *testing.T, p *link.Program, unit, item, pool, literal int) {
	t.Helper()
	if got, want := slotOf(p, unit, item), (slot{pool, literal, true}); got != want {
		t.Errorf("Slot(%d, %d): %+v, not %+v", unit, item, got, want)
	}
}

// noLoad asks that Slot answers false there, and zeros beside it.
func noLoad(t *testing.T, p *link.Program, unit, item int) {
	t.Helper()
	if got := slotOf(p, unit, item); got != (slot{}) {
		t.Errorf("Slot(%d, %d): %+v", unit, item, got)
	}
}

// The chapter's words, gone anew in another way: slow, for few and small units.

type told struct {
	pools []pool.Pool
	slots map[[2]int]slot
}

// next answers the number of the item at which the literal of that load lies.
func next(items []api.Item, load int) int {
	for i := load + 1; i < len(items); i++ {
		if items[i].Kind == api.Pool {
			return i
		}
	}
	return len(items)
}

// tell goes load by load: each looks for its pool, and there for its literal.
func tell(p *link.Program) told {
	c := told{slots: map[[2]int]slot{}}
	for n := range p.Units() {
		items := p.Items(n, text)
		for i, x := range items {
			if op, _ := isa.At(x.Inst.Op); op.Name != "ldp" {
				continue
			}
			item := next(items, i)
			number := slices.IndexFunc(c.pools, func(q pool.Pool) bool { return q.Unit == n && q.Item == item })
			if number < 0 {
				number = len(c.pools)
				c.pools = append(c.pools, pool.Pool{Unit: n, Item: item})
			}
			l := &c.pools[number].Literals
			literal := slices.IndexFunc(*l, func(y api.Lin) bool { return expr.Same(x.E, y) })
			if literal < 0 {
				literal = len(*l)
				*l = append(*l, x.E)
			}
			c.slots[[2]int{n, i}] = slot{number, literal, true}
		}
	}
	return c
}

// agrees holds all that Pools and Slot answer of p against the chapter said anew.
func agrees(t *testing.T, p *link.Program) {
	t.Helper()
	c := tell(p)
	if got := pool.Pools(p); !slices.EqualFunc(got, c.pools, samePool) {
		t.Fatalf("the pools are %s, not %s", short(got), short(c.pools))
	}
	for n := -1; n <= p.Units(); n++ {
		for i := -1; i <= len(p.Items(n, text))+len(p.Items(n, data))+1; i++ {
			if got, want := slotOf(p, n, i), c.slots[[2]int{n, i}]; got != want {
				t.Fatalf("Slot(%d, %d): %+v, not %+v; Text is %s", n, i, got, want, short(p.Items(n, text)))
			}
		}
	}
}

// Drawn programs.

// drawer draws sources that have labels and equs of few names, so that many of their literals are one.
type drawer struct {
	*rand.Rand
}

func (d drawer) of(l ...string) string {
	return l[d.Intn(len(l))]
}

func (d drawer) literal() string {
	var parts []string
	for range 1 + d.Intn(3) {
		parts = append(parts, d.of("0", "1", "2", "a", "b", "2*a", "-a", "0*b", "e", "f", "-e", "0xffffffff*b", "g"))
	}
	return strings.Join(parts, "+")
}

// line answers a line of a unit's Text.
func (d drawer) line() string {
	switch d.Intn(9) {
	case 0, 1, 2, 3:
		return "ldp r" + strconv.Itoa(d.Intn(8)) + ", =" + d.literal()
	case 4:
		return "pool"
	case 5:
		return d.of("jmp ", "call ", "jz r1, ", "jnz r2, ", "li r3, ") + d.literal()
	case 6:
		return d.of("align 4", "nop", "halt", "add r1, r2", "lis r1, 39", "trap 39", "section data\nword a, 1, e\nsection text")
	}
	return d.of("ldp r1, =1", "ldp r1, =a", "pool\npool")
}

func (d drawer) source(name string) string {
	l := []string{"equ e, a+1", "equ f, " + d.of("e-1", "b", "1", "2*a-b"), "global " + name, "equ " + name + ", " + d.of("a", "3", "f")}
	if name != "g" {
		l = append(l, "equ g, "+d.of("a", "b-b", "7"))
	}
	spots := map[int]string{d.Intn(12): "a:", 12 + d.Intn(3): "b:"}
	for i := range 15 {
		l = append(l, spots[i])
		if i < d.Intn(15) {
			l = append(l, d.line())
		}
	}
	return lines(l...)
}

func (d drawer) program() (*link.Program, []string) {
	var srcs []string
	for n := range 1 + d.Intn(3) {
		srcs = append(srcs, d.source([]string{"g", "h", "k"}[n]))
	}
	return linked(srcs...), srcs
}
