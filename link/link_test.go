package link_test

import (
	"math"
	"math/rand"
	"slices"
	"strings"
	"testing"

	"spandrel/api"
	"spandrel/link"
)

// The chapter's runs and examples.

func TestRuns(t *testing.T) {
	fails(t, link.Fail{Why: api.ErrEntry})
	fails(t, link.Fail{Why: api.ErrDup, Unit: 1, Name: "a"}, unitsOf("a: global a", "a: global a")...)
	fails(t, link.Fail{Why: api.ErrUndef, Unit: 0, Name: "b"}, unitOf("jmp b"))
	p := linked(t, unitsOf("jmp b", "global b\nb: nop")...)
	if l := p.Items(0, text); len(l) != 1 || l[0].Inst != (api.Inst{Op: 40}) || !slices.Equal(l[0].E.Terms, []api.Term{{Name: "L0", Coef: 1}}) || l[0].E.Const != 0 {
		t.Errorf("Items(0, Text): %+v", l)
	}
	fails(t, link.Fail{Why: api.ErrCycle, Unit: 0, Name: "a"}, unitsOf("equ a, b\nglobal a", "equ b, a\nglobal b")...)
}

func TestExamples(t *testing.T) {
	// Two units may have locals of one name.
	p := linked(t, unitsOf("x: jmp x\nequ e, x+1\nli r1, e", "nop\nx: jmp x\nequ e, x+2\nli r1, e")...)
	says(t, p, "x: jmp L0\nli r1, L0+1", "nop\nx: jmp L1\nli r1, L1+2")
	finds(t, p, 0, "x", 0)
	finds(t, p, 1, "x", 1)

	// A local hides a global of its name.
	p = linked(t, unitsOf("x: nop\njmp x", "x: nop\nglobal x\njmp x", "jmp x", "equ x, 7\nli r1, x")...)
	says(t, p, "x: nop\njmp L0", "x: nop\njmp L1", "jmp L1", "li r1, 7")
	finds(t, p, 0, "x", 0)
	finds(t, p, 1, "x", 1)
	finds(t, p, 2, "x", 1)
	finds(t, p, 3, "x", -1)

	// Find of an equ: false.
	p = linked(t, unitsOf("a: equ e, a\nglobal e", "nop")...)
	finds(t, p, 0, "e", -1)
	finds(t, p, 1, "e", -1)
	finds(t, p, 0, "a", 0)
}

// P12.1

func TestHowManyUnits(t *testing.T) {
	fails(t, link.Fail{Why: api.ErrEntry})
	fails(t, link.Fail{Why: api.ErrEntry}, []api.Unit{}...)
	linked(t, api.Unit{})
	for _, n := range []int{2, 63, 64} {
		if p := linked(t, make([]api.Unit, n)...); p.Units() != n {
			t.Errorf("%d units, not %d", p.Units(), n)
		}
	}
	for _, n := range []int{65, 66, 128, 1000} {
		fails(t, link.Fail{Why: api.ErrMany}, make([]api.Unit, n)...)
	}
}

// wrongUnits answers units that unit.Right refuses, each for another reason.
func wrongUnits() []api.Unit {
	name := func(s string) api.Lin { return api.Lin{Terms: []api.Term{{Name: s, Coef: 1}}} }
	return []api.Unit{
		wrong(),
		{Text: make([]api.Item, 8193)},
		{Text: slices.Repeat([]api.Item{{Kind: api.Pool}}, 8193)},
		{Text: slices.Repeat([]api.Item{{Kind: api.Pool}}, 8192), Data: []api.Item{{Kind: api.Byte}}},
		{Text: []api.Item{{}}},
		{Text: []api.Item{{Kind: api.Byte}}},
		{Data: []api.Item{{Kind: api.Pool}}},
		{Text: []api.Item{label("r1")}},
		{Text: []api.Item{label("a")}, Data: []api.Item{label("a")}},
		{Text: []api.Item{label("a")}, Equs: []api.Equ{{Name: "a"}}},
		{Text: []api.Item{{Kind: api.Code, Inst: api.Inst{Op: 40, Form: 1}}}},
		{Text: []api.Item{{Kind: api.Code, Inst: api.Inst{Op: 40}, E: name("r1")}}},
		{Equs: []api.Equ{{Name: "e"}, {Name: "e"}}},
		{Equs: []api.Equ{{Name: ""}}},
		{Equs: []api.Equ{{Name: "e", E: name("")}}},
		{Data: []api.Item{worded(api.Lin{Terms: []api.Term{{Name: "b", Coef: 1}, {Name: "a", Coef: 1}}})}, Equs: []api.Equ{{Name: "a"}, {Name: "b"}}},
		{Data: []api.Item{worded(api.Lin{Terms: []api.Term{{Name: "a"}}})}, Equs: []api.Equ{{Name: "a"}}},
		{Equs: []api.Equ{{Name: "a"}, {Name: "b"}}, Globals: []string{"b", "a"}},
		{Equs: []api.Equ{{Name: "a"}}, Globals: []string{"a", "a"}},
	}
}

func TestUnitsThatAreNotRight(t *testing.T) {
	for _, u := range wrongUnits() {
		fails(t, link.Fail{Why: api.ErrUnit, Unit: 0}, u)
		fails(t, link.Fail{Why: api.ErrUnit, Unit: 0}, u, api.Unit{}, u)
		fails(t, link.Fail{Why: api.ErrUnit, Unit: 1}, unitOf("a: jmp a"), u)
		fails(t, link.Fail{Why: api.ErrUnit, Unit: 2}, api.Unit{}, api.Unit{}, u, wrong())
		fails(t, link.Fail{Why: api.ErrUnit, Unit: 63}, append(make([]api.Unit, 63), u)...)
	}
	// At the edge they are right.
	linked(t, api.Unit{Text: slices.Repeat([]api.Item{{Kind: api.Pool}}, 8192)})
}

func TestTwoGlobalsOfOneName(t *testing.T) {
	dup := func(unit int, name string) link.Fail { return link.Fail{Why: api.ErrDup, Unit: unit, Name: name} }
	for _, c := range []struct {
		want link.Fail
		srcs []string
	}{
		{dup(1, "a"), []string{"a: global a", "equ a, 1\nglobal a"}},
		{dup(1, "a"), []string{"equ a, 1\nglobal a", "equ a, 1\nglobal a"}},
		{dup(2, "a"), []string{"a: global a", "nop", "a: global a"}},
		{dup(2, "b"), []string{"a: global a", "b: global b", "b: global b", "a: global a"}},
		// Of one unit the first such name, in the globals' order, wherever it is given.
		{dup(1, "b"), []string{"d: global d\nb: global b\nc: global c", "d: global d\nc: global c\nb: global b\na: global a"}},
		{dup(3, "c"), []string{"c: global c", "a: global a", "b: global b", "d: global d\nc: global c\nequ e, 1\nglobal e"}},
		{dup(2, "B"), []string{"a: global a", "B: global B", "a: global a\nB: global B"}},
		// The unit ahead is not the one that is told, nor are locals of that name counted.
		{dup(3, "a"), []string{"a: nop", "a: global a", "a: nop", "a: global a", "a: global a"}},
	} {
		fails(t, c.want, unitsOf(c.srcs...)...)
	}
	u := unitOf("a: global a")
	fails(t, dup(1, "a"), u, u)
	// Great and small letters are apart, and so are names that begin alike.
	linked(t, unitsOf("a: global a", "A: global A", "aa: global aa", "a_: global a_")...)
	linked(t, unitsOf("a: global a", "a: nop", "equ a, 1")...)
}

func TestNamesThatNobodyGives(t *testing.T) {
	undef := func(unit int, name string) link.Fail {
		return link.Fail{Why: api.ErrUndef, Unit: unit, Name: name}
	}
	for _, c := range []struct {
		want link.Fail
		srcs []string
	}{
		{undef(0, "b"), []string{"jmp b"}},
		{undef(0, "b"), []string{"a: call a\njz r1, b"}},
		{undef(0, "b"), []string{"li r1, 2*b+1"}},
		{undef(0, "b"), []string{"ldp r1, =b"}},
		{undef(0, "b"), []string{"section data\nword 1, b"}},
		{undef(0, "b"), []string{"equ a, b"}},
		{undef(0, "b"), []string{"equ a, 0x80000000*b"}},
		// Text, then Data, then equs, whatever the order of the lines.
		{undef(0, "x"), []string{"equ a, z\nsection data\nword y\nsection text\njmp x"}},
		{undef(0, "y"), []string{"a: equ e, z\nsection data\nword y\nsection text\njmp a"}},
		{undef(0, "z"), []string{"a: equ e, z\nsection data\nword a\nsection text\njmp e"}},
		// Of one section the first item, of one item the first term, of equs the first one.
		{undef(0, "q"), []string{"jmp q\njmp b"}},
		{undef(0, "b"), []string{"jmp q+b+z"}},
		{undef(0, "c"), []string{"b: jmp q+b+c"}},
		{undef(0, "z"), []string{"section data\nword z, a"}},
		{undef(0, "z"), []string{"equ q, z\nequ b, a"}},
		{undef(0, "m"), []string{"equ q, z+m\nequ b, a\nequ z, 1"}},
		// A local of another unit is not known, an equ neither.
		{undef(1, "a"), []string{"a: nop", "jmp a"}},
		{undef(0, "a"), []string{"jmp a", "equ a, 1"}},
		{undef(2, "a"), []string{"a: jmp a", "a: jmp a", "jmp a"}},
		// The first unit, even if what is missing there is an equ's, and in another one a Text's.
		{undef(1, "z"), []string{"nop", "equ e, z", "jmp a"}},
		{undef(0, "z"), []string{"equ e, z", "section data\nword y", "jmp a"}},
		{undef(1, "b"), []string{"jmp a", "a: global a\njmp b", "jmp c"}},
		// A name that another unit's equ has, and that is given there alone.
		{undef(0, "k"), []string{"section data\nword f+k", "equ f, k\nk: global f"}},
		{undef(0, "A"), []string{"a: jmp A"}},
		{undef(0, "L0"), []string{"a: jmp L0"}},
		{undef(0, "E0"), []string{"equ e, 1\nli r1, E0"}},
	} {
		fails(t, c.want, unitsOf(c.srcs...)...)
	}
	// A global may stand in a unit behind or ahead; a term that is gone asks for nothing.
	linked(t, unitsOf("jmp b", "b: global b\njmp a", "equ a, 1\nglobal a\njmp b")...)
	linked(t, unitOf("jmp b-b"))
	linked(t, unitOf("li r1, 0*b"))
}

func TestEqusThatComeBack(t *testing.T) {
	cycle := func(unit int, name string) link.Fail {
		return link.Fail{Why: api.ErrCycle, Unit: unit, Name: name}
	}
	for _, c := range []struct {
		want link.Fail
		srcs []string
	}{
		{cycle(0, "a"), []string{"equ a, a"}},
		{cycle(0, "a"), []string{"x: equ a, 2*a+x"}},
		{cycle(0, "b"), []string{"equ b, a\nequ a, b"}},
		{cycle(0, "c"), []string{"equ x, c\nequ c, b\nequ b, a\nequ a, c"}},
		// What leads to a ring and is not of it is not told, nor what is ahead by its name.
		{cycle(0, "z"), []string{"equ a, z\nequ b, a\nequ z, y\nequ y, z"}},
		{cycle(1, "z"), []string{"equ a, z\nglobal a", "equ b, a\nequ z, z\nglobal z"}},
		// Of a unit the first equ, of several units the first one.
		{cycle(1, "q"), []string{"equ q, 1", "equ p, q\nequ q, q\nequ a, a", "equ a, a"}},
		{cycle(1, "k"), []string{"nop\nequ x, y\nequ y, 1", "equ k, k"}},
		{cycle(2, "a"), []string{"equ a, 1", "a: equ b, a", "equ a, a"}},
		// Over units.
		{cycle(0, "a"), []string{"equ a, b\nglobal a", "equ b, a\nglobal b"}},
		{cycle(0, "b"), []string{"equ b, a\nglobal b", "equ a, b\nglobal a"}},
		{cycle(1, "a"), []string{"li r1, a", "equ a, c\nglobal a", "equ c, k\nequ k, a\nglobal c"}},
		{cycle(1, "b"), []string{"x: equ a, b\nglobal x", "equ b, c\nglobal b", "equ c, d+x\nglobal c", "equ d, b\nglobal d"}},
		// A local of a unit on the way, whose name another unit has, too.
		{cycle(0, "x"), []string{"equ x, f\nglobal x", "equ f, y\nequ y, x\nglobal f", "equ y, 1"}},
		{cycle(0, "y"), []string{"equ x, 1\nequ y, g\nglobal y", "equ x, y\nequ g, x\nglobal g"}},
		// Ways whose coefficients come to nothing lead on nevertheless.
		{cycle(0, "a"), []string{"equ a, 0x80000000*b\nequ b, 2*a"}},
		{cycle(0, "a"), []string{"equ a, b-c\nequ b, a\nequ c, a"}},
		// Rings that no item asks for, and rings of names that look like words.
		{cycle(0, "E1"), []string{"equ E0, 1\nequ E1, E2\nequ E2, E1"}},
		{cycle(1, "L0"), []string{"a: nop\nglobal a", "equ L0, a+L0"}},
	} {
		fails(t, c.want, unitsOf(c.srcs...)...)
	}
	// What looks like a ring and is none: a local of one name leads to a global of another unit, and that one to a local.
	p := linked(t, unitsOf("equ x, f\nli r1, x", "x: equ f, x+1\nglobal f")...)
	says(t, p, "li r1, L0+1", "x:")
	p = linked(t, unitsOf("equ a, b\nli r1, a\nglobal a", "equ b, a2\nequ a2, 3\nequ a, 4\nglobal b")...)
	says(t, p, "li r1, 3", "")
	linked(t, unitOf("equ a, a-a+b\nequ b, 0*a"))
}

// Several at once: the first in the chapter's order is told, at whatever unit it is.
func TestSeveralReasonsAtOnce(t *testing.T) {
	dup, undef, cycle := "a: global a", "jmp nobody", "equ k, k"
	right := func(srcs ...string) []api.Unit { return unitsOf(srcs...) }
	many := append(make([]api.Unit, 62), wrong(), wrong(), unitOf(dup))
	fails(t, link.Fail{Why: api.ErrMany}, many...)
	fails(t, link.Fail{Why: api.ErrMany}, append([]api.Unit{wrong()}, make([]api.Unit, 64)...)...)
	fails(t, link.Fail{Why: api.ErrUnit, Unit: 4}, append(right(cycle, undef, dup, dup), wrong())...)
	fails(t, link.Fail{Why: api.ErrUnit, Unit: 0}, append([]api.Unit{wrong()}, right(dup, dup, undef)...)...)
	fails(t, link.Fail{Why: api.ErrDup, Unit: 3, Name: "a"}, right(cycle, undef, dup, dup)...)
	fails(t, link.Fail{Why: api.ErrDup, Unit: 1, Name: "a"}, right(dup, dup, undef, cycle)...)
	fails(t, link.Fail{Why: api.ErrDup, Unit: 1, Name: "a"}, right("equ a, a+nobody\nglobal a", "a: jmp nobody\nglobal a")...)
	fails(t, link.Fail{Why: api.ErrUndef, Unit: 2, Name: "nobody"}, right(cycle, dup, undef)...)
	fails(t, link.Fail{Why: api.ErrUndef, Unit: 0, Name: "nobody"}, right(undef, cycle)...)
	fails(t, link.Fail{Why: api.ErrUndef, Unit: 0, Name: "b"}, right("equ a, a+b")...)
	fails(t, link.Fail{Why: api.ErrCycle, Unit: 1, Name: "k"}, right(dup, cycle, cycle)...)
}

// P12.2

func TestLabels(t *testing.T) {
	units := unitsOf(
		"nop\nb: nop\nsection data\nd: word b\nsection text\na:\nc: halt",
		"",
		"section data\nbyte 1\nz: byte 2, 3\ny: space 3\nx:\nequ e, 1\nglobal e",
		"nop",
		"b: nop\nd: align 4\nglobal d")
	p := linked(t, units...)
	want := []link.Label{
		{Unit: 0, Section: text, Item: 1, Name: "b"},
		{Unit: 0, Section: text, Item: 3, Name: "a"},
		{Unit: 0, Section: text, Item: 4, Name: "c"},
		{Unit: 0, Section: data, Item: 0, Name: "d"},
		{Unit: 2, Section: data, Item: 1, Name: "z"},
		{Unit: 2, Section: data, Item: 4, Name: "y"},
		{Unit: 2, Section: data, Item: 6, Name: "x"},
		{Unit: 4, Section: text, Item: 0, Name: "b"},
		{Unit: 4, Section: text, Item: 2, Name: "d"},
	}
	if got := p.Labels(); !slices.Equal(got, want) {
		t.Errorf("%+v, not %+v", got, want)
	}
	if p.Units() != 5 {
		t.Errorf("%d units", p.Units())
	}
	for number, l := range want {
		finds(t, p, l.Unit, l.Name, number)
		items := p.Items(l.Unit, l.Section)
		if l.Item >= len(items) || !sameItem(items[l.Item], label(l.Name)) {
			t.Errorf("%+v: the items there are %s", l, short(items))
		}
	}
	// The units in another order: the labels are numbered by it.
	slices.Reverse(units)
	p = linked(t, units...)
	finds(t, p, 0, "b", 0)
	finds(t, p, 2, "z", 2)
	finds(t, p, 4, "d", 8)
	if l := p.Labels(); len(l) != 9 || l[5] != (link.Label{Unit: 4, Item: 1, Name: "b"}) {
		t.Errorf("%+v", l)
	}
}

func TestUnitsThatHoldNothing(t *testing.T) {
	for n := 1; n <= 3; n++ {
		p := linked(t, make([]api.Unit, n)...)
		if p.Units() != n || len(p.Labels()) != 0 || p.Spans() != 0 {
			t.Errorf("%d units, %v, %d", p.Units(), p.Labels(), p.Spans())
		}
		for u := range n {
			if len(p.Items(u, text)) != 0 || len(p.Items(u, data)) != 0 {
				t.Errorf("unit %d has items", u)
			}
			finds(t, p, u, "a", -1)
			finds(t, p, u, "", -1)
		}
	}
	p := linked(t, unitsOf("", "jmp a", "", "a: global a", "")...)
	says(t, p, "", "jmp L0", "", "a:", "")
	finds(t, p, 0, "a", 0)
	finds(t, p, 4, "a", 0)
}

func TestFind(t *testing.T) {
	p := linked(t, unitsOf(
		"x: nop\ny: nop\nequ e, x\nequ k, 5\nglobal y\nglobal e",
		"section data\nx: byte 1\ny: byte 2\nequ z, y\nk: global k",
		"e: nop\nequ y, 1\nl: nop")...)
	for _, c := range []struct {
		unit int
		name string
		want int
	}{
		{0, "x", 0}, {0, "y", 1}, {0, "e", -1}, {0, "k", -1}, {0, "z", -1}, {0, "l", -1},
		{1, "x", 2}, {1, "y", 3}, {1, "e", -1}, {1, "k", 4}, {1, "z", -1}, {1, "l", -1},
		{2, "x", -1}, {2, "y", -1}, {2, "e", 5}, {2, "k", 4}, {2, "z", -1}, {2, "l", 6},
		{0, "", -1}, {0, "X", -1}, {0, "xx", -1}, {0, "x ", -1}, {0, "r1", -1}, {0, "L0", -1}, {0, "E0", -1}, {0, strings.Repeat("x", 1000), -1},
	} {
		finds(t, p, c.unit, c.name, c.want)
	}
	// No unit: not even what is known everywhere is known there.
	for _, unit := range []int{-1, -2, 3, 4, 64, math.MaxInt, math.MinInt} {
		for _, name := range []string{"x", "y", "k", "e", ""} {
			finds(t, p, unit, name, -1)
		}
	}
}

// P12.3

func TestItems(t *testing.T) {
	// Each kind of item, and each shape that has an expression.
	p := linked(t, unitsOf(
		"a: nop\nadd r1, r2\nlis r3, -7\ntrap 9\nzset z1, r2, r3\nalign 16\npool\nli r1, a+1\nldp r2, =d-a\njmp a\ncall g\njz r1, a\njnz r2, 5\nsection data\nd: word a, d+g, 3\nbyte -1, 255\nspace 10\nalign 2",
		"nop\ng: jmp g\nglobal g\nsection data\nd: word d")...)
	says(t, p,
		"a: nop\nadd r1, r2\nlis r3, -7\ntrap 9\nzset z1, r2, r3\nalign 16\npool\nli r1, L0+1\nldp r2, =L1-L0\njmp L0\ncall L2\njz r1, L0\njnz r2, 5\nsection data\nd: word L0, L1+L2, 3\nbyte -1, 255\nspace 10\nalign 2",
		"nop\ng: jmp L2\nsection data\nd: word L3")
	if p.Spans() != 5 {
		t.Errorf("%d span instructions", p.Spans())
	}
	for _, c := range [][2]int{{-1, text}, {-1, data}, {2, text}, {2, data}, {0, 2}, {0, -1}, {1, 3}, {64, 0}, {math.MaxInt, text}, {math.MinInt, data}, {0, math.MaxInt}, {0, math.MinInt}} {
		if l := p.Items(c[0], c[1]); len(l) != 0 {
			t.Errorf("Items(%d, %d): %s", c[0], c[1], short(l))
		}
	}
}

func TestEqusAreSolved(t *testing.T) {
	for _, c := range []struct{ srcs, want []string }{
		{[]string{"equ e, 5\nli r1, e"}, []string{"li r1, 5"}},
		{[]string{"equ e, 5\nli r1, 3*e-1"}, []string{"li r1, 14"}},
		{[]string{"x: equ e, 2*x+1\nli r1, 3*e+x"}, []string{"x: li r1, 7*L0+3"}},
		{[]string{"x: equ c, 2*b+1\nequ b, 3*a+1\nequ a, x+1\nli r1, c"}, []string{"x: li r1, 6*L0+9"}},
		// Over units, there and back; the equ's names are those of its own unit.
		{[]string{"x: equ e, 2*f\nli r1, e+x", "x: equ f, x-7\nglobal f"}, []string{"x: li r1, L0+2*L1-14", "x:"}},
		{[]string{"x: jmp f\nequ x2, x\nglobal x2", "x: equ f, g+x\nglobal f\nequ g, x2-1"}, []string{"x: jmp L0+L1-1", "x:"}},
		{[]string{"li r1, a", "equ a, b+1\nglobal a", "equ b, c+1\nglobal b", "equ c, d+1\nglobal c\nd: nop"}, []string{"li r1, L0+3", "", "", "d: nop"}},
		{[]string{"equ a, b+1\nglobal a", "equ b, c+1\nglobal b\nc: nop\nglobal c", "li r1, a\nequ c, 9"}, []string{"", "c: nop", "li r1, L0+2"}},
		// In Data, and in each section's items.
		{[]string{"x: equ e, x+4\njz r1, e\nldp r1, =e\nsection data\ny: word e, e-y"}, []string{"x: jz r1, L0+4\nldp r1, =L0+4\nsection data\ny: word L0+4, L0-L1+4"}},
		// A local equ hides a global label, a local label a global equ.
		{[]string{"equ g, 3\nli r1, g", "g: global g\nli r1, g"}, []string{"li r1, 3", "g: li r1, L0"}},
		{[]string{"g: li r1, g", "equ g, 3\nglobal g\nli r1, g", "li r1, g"}, []string{"g: li r1, L0", "li r1, 3", "li r1, 3"}},
		// Terms that come to nothing, and names that come to one label.
		{[]string{"x: equ e, x\nli r1, e-x"}, []string{"x: li r1, 0"}},
		{[]string{"x: equ e, x+1\nequ f, x-1\nli r1, e-f\nli r2, e+f\nli r3, e+x"}, []string{"x: li r1, 2\nli r2, 2*L0\nli r3, 2*L0+1"}},
		{[]string{"x: equ e, 0x80000000*x+3\nli r1, 2*e\nli r2, 2*e+x"}, []string{"x: li r1, 6\nli r2, L0+6"}},
		{[]string{"x: equ e, y-x\ny: li r1, e+x"}, []string{"x:\ny: li r1, L1"}},
		{[]string{"x: equ e, 0x10000*x\nequ f, 0x10000*e\nli r1, f+1"}, []string{"x: li r1, 1"}},
		{[]string{"li r1, f-g", "x: equ f, x+5\nequ g, x\nglobal f\nglobal g"}, []string{"li r1, 5", "x:"}},
		// The ends of the 32 bits.
		{[]string{"x: equ e, 4294967295*x+4294967295\nli r1, 4294967295*e+4294967295"}, []string{"x: li r1, L0"}},
	} {
		says(t, linked(t, unitsOf(c.srcs...)...), c.want...)
	}
}

// Words are names, too: a unit may have them as its own, and they mean there what the unit says.
func TestNamesThatLookLikeWords(t *testing.T) {
	p := linked(t, unitOf("L1: jmp L0+2*L1\nL0: jmp L1"))
	says(t, p, "L1: jmp 2*L0+L1\nL0: jmp L0")
	finds(t, p, 0, "L0", 1)
	finds(t, p, 0, "L1", 0)
	p = linked(t, unitsOf("L2: nop\nL0: nop\nL1: nop\nli r1, L0+2*L1+4*L2+8*E0\nequ E0, E1+L1\nequ E1, L2", "equ L0, 7\nli r1, L0+L1\nL1: nop")...)
	says(t, p, "L2: nop\nL0: nop\nL1: nop\nli r1, 12*L0+L1+10*L2", "li r1, L3+7\nL1: nop")
	p = linked(t, unitOf("equ E1, 5\nequ E0, E1+1\nx: li r1, E0+x\nequ E2, E0\nli r2, E1+E2"))
	says(t, p, "x: li r1, L0+6\nli r2, 11")
}

// The words' order is that of texts: L10 stands ahead of L2.
func TestWordsOfMoreDigits(t *testing.T) {
	var b strings.Builder
	for i := range 12 {
		b.WriteString(numbered("x", i) + ": nop\n")
	}
	p := linked(t, unitOf(b.String()+"li r1, x0+x1+2*x2+9*x9+10*x10+11*x11"))
	l := p.Items(0, text)
	want := []api.Term{{Name: "L0", Coef: 1}, {Name: "L1", Coef: 1}, {Name: "L10", Coef: 10}, {Name: "L11", Coef: 11}, {Name: "L2", Coef: 2}, {Name: "L9", Coef: 9}}
	if got := l[len(l)-1].E.Terms; !slices.Equal(got, want) {
		t.Errorf("%v, not %v", got, want)
	}
}

func TestSpans(t *testing.T) {
	for _, c := range []struct {
		want int
		srcs []string
	}{
		{0, []string{""}},
		{0, []string{"nop\nret\njr r1\nli r1, 5\nldp r1, =5"}},
		{1, []string{"jmp 0"}},
		{1, []string{"call 0"}},
		{1, []string{"jz r1, 0"}},
		{1, []string{"jnz r1, 0"}},
		{4, []string{"jmp 0\nnop\ncall 0\nx: jz r1, 0\npool\njnz r1, x\nsection data\nword x"}},
		{5, []string{"jmp 0\njmp 0", "", "a: call a\ncall a", "section data\nword 1", "jz r1, 1"}},
	} {
		if p := linked(t, unitsOf(c.srcs...)...); p.Spans() != c.want {
			t.Errorf("%q: %d, not %d", c.srcs, p.Spans(), c.want)
		}
	}
}

// P12.1 to P12.3, held against the chapter's words gone anew.

func TestDrawnUnits(t *testing.T) {
	r := rand.New(rand.NewSource(12))
	met := map[api.Errno]int{}
	for i := range 12000 {
		d := drawer{Rand: r, global: 40}
		switch i % 4 {
		case 1:
			d.strange = 40
		case 2:
			d.back = 25
		case 3:
			d.global, d.strange, d.back = 70, 20, 10
		}
		units := d.units()
		if d.chance(1, 200) {
			units[d.Intn(len(units))] = wrong()
		}
		met[agrees(t, units)]++
	}
	for _, why := range []api.Errno{api.OK, api.ErrDup, api.ErrUndef, api.ErrCycle, api.ErrUnit} {
		if met[why] < 30 || why == api.OK && met[why] < 3000 {
			t.Errorf("%v is met %d times", why, met[why])
		}
	}
}

// All ways in which the names a and b of two units lead to each other, global or not; in the first unit b may be missing, in the second one a label.
func TestAllWaysOfTwoUnits(t *testing.T) {
	names := []string{"a", "b"}
	for ways := range 1 << 12 {
		bit := func(n int) bool { return ways>>n&1 == 1 }
		units := make([]api.Unit, 2)
		for n := range units {
			for i, name := range names {
				at := 2*n + i
				if bit(at) {
					units[n].Globals = append(units[n].Globals, name)
				}
				coefs := map[string]uint32{}
				for j, to := range names {
					if bit(4 + 2*at + j) {
						coefs[to] = uint32(at + j + 2)
					}
				}
				if n == 1 && i == 1 && !bit(4+2*at) {
					units[n].Text = append(units[n].Text, label(name))
					continue
				}
				if n == 0 && i == 1 && !bit(at) {
					// The other unit's may be meant.
					units[n].Data = append(units[n].Data, worded(fromCoefs(coefs, 1)))
					continue
				}
				units[n].Equs = append(units[n].Equs, api.Equ{Name: name, E: fromCoefs(coefs, uint32(at))})
			}
			units[n].Data = append(units[n].Data, worded(fromCoefs(map[string]uint32{"a": 3, "b": 5}, 7)))
		}
		agrees(t, units)
	}
}

// Calls answer the same again, however maps are gone through.
func TestAnswersStayTheSame(t *testing.T) {
	units := unitsOf("a: jmp f+g\nequ e, a+f\nli r1, e\nglobal e", "b: equ f, g+b\nequ g, 3*b+c\nc: global f\nglobal g\nld: li r1, e+ld")
	ring := unitsOf("equ c, d\nequ d, e\nglobal c", "equ f, f\nequ e, c\nglobal e")
	first := linked(t, units...)
	for range 100 {
		p := linked(t, units...)
		for n := range units {
			if !sameItems(p.Items(n, text), first.Items(n, text)) {
				t.Fatalf("%s, then %s", short(first.Items(n, text)), short(p.Items(n, text)))
			}
		}
		fails(t, link.Fail{Why: api.ErrCycle, Unit: 0, Name: "c"}, ring...)
	}
}
