package layout_test

import (
	"math"
	"math/rand"
	"strconv"
	"testing"

	"spandrel/api"
	"spandrel/expr"
	"spandrel/isa"
	"spandrel/layout"
	"spandrel/link"
)

// one answers what a program of one unit has, beside its lists of items.
func one(code, start, size int, textAt, dataAt []int) layout.Layout {
	return layout.Layout{Text: [][]int{textAt}, Data: [][]int{dataAt}, Code: code, Start: start, Size: size}
}

// The chapter's runs and examples.

func TestRuns(t *testing.T) {
	p := linked(lines("a: jmp b", "nop", "b: halt"))
	want := one(4, 16, 16, []int{0, 0, 2, 3, 3}, nil)
	want.Labels = []int{0, 3}
	lies(t, p, []int{1}, want)

	want = one(7, 16, 16, []int{0, 0, 5, 6, 6}, nil)
	want.Labels = []int{0, 6}
	lies(t, p, []int{4}, want)

	spansBy(t, p, of(t, p, 1), 0, 1, 1)

	p = linked(lines("ldp r1, =5", "halt"))
	want = one(10, 16, 16, []int{0, 4}, nil)
	want.Pools = []int{5}
	lies(t, p, nil, want)
	loadsBy(t, p, of(t, p), 0, 0, 2)

	lies(t, linked(lines("nop", "align 4", "nop")), nil, one(5, 16, 16, []int{0, 1, 4}, nil))
}

func TestExamples(t *testing.T) {
	// Of without span instructions: forms empty.
	p := linked(lines("a: nop", "li r1, a", "ldp r2, =a"))
	for _, forms := range [][]int{nil, {}} {
		if l, why := layout.Of(p, forms); why != api.OK || l.Code != 16 {
			t.Errorf("%v: %+v", why, l)
		}
	}

	// A program without data: Size is Start.
	for n := range 40 {
		if l := of(t, linked(nops(n))); l.Code != n || l.Size != l.Start {
			t.Errorf("%d nops: %+v", n, l)
		}
	}

	// Disp of a label: false.
	p = linked("a: jmp a")
	noSpan(t, p, of(t, p, 1), 0, 0)
	spansBy(t, p, of(t, p, 1), 0, 1, -2)
}

// P14.1

func TestFormsThatAreRefused(t *testing.T) {
	none := linked("nop\nsection data\nbyte 1")
	two := linked("a: jmp a", "jz r1, 0\nldp r1, =1")
	for _, c := range []struct {
		p     *link.Program
		forms []int
	}{
		{nil, nil}, {nil, []int{}}, {nil, []int{1}},
		{none, []int{1}}, {none, []int{0}}, {none, []int{1, 1}},
		{two, nil}, {two, []int{}}, {two, []int{1}}, {two, []int{4}}, {two, []int{1, 1, 1}}, {two, []int{1, 2, 4, 1}},
		{two, []int{0, 1}}, {two, []int{1, 0}}, {two, []int{3, 1}}, {two, []int{1, 3}}, {two, []int{4, 5}}, {two, []int{8, 1}},
		{two, []int{-1, 1}}, {two, []int{1, -2}}, {two, []int{1, -4}}, {two, []int{2, 16}},
		{two, []int{math.MinInt, 1}}, {two, []int{1, math.MaxInt}}, {two, []int{1 << 32, 1}}, {two, []int{1, 1<<32 + 1}}, {two, []int{257, 1}},
	} {
		if l, why := layout.Of(c.p, c.forms); why != api.ErrArg || !isNone(l) {
			t.Errorf("%v: %v, %+v", c.forms, why, l)
		}
	}
	for _, forms := range allForms(2) {
		agrees(t, two, forms)
	}
	for form := -300; form <= 300; form++ {
		want := api.ErrArg
		if form == 1 || form == 2 || form == 4 {
			want = api.OK
		}
		if _, why := layout.Of(two, []int{1, form}); why != want {
			t.Errorf("the form %d: %v", form, why)
		}
	}
}

// Forms go to the span instructions in their order, over units, whatever lies between.
func TestFormsInOrder(t *testing.T) {
	p := linked(
		lines("jmp 0", "nop", "a: call a", "section data", "word 1", "section text", "ldp r1, =7", "jz r1, a"),
		"nop",
		"section data\nbyte 1",
		lines("pool", "jnz r7, 5", "li r1, 1", "jr r1", "ret", "jmp 1"),
	)
	lies(t, p, []int{1, 2, 4, 1, 2}, layout.Layout{
		Text:   [][]int{{0, 2, 3, 3, 6, 10}, {21}, nil, {22, 22, 25, 31, 33, 34}},
		Data:   [][]int{{48}, nil, {52}, nil},
		Pools:  []int{16},
		Labels: []int{3},
		Code:   37, Start: 48, Size: 53,
	})
	lies(t, p, []int{4, 1, 1, 2, 1}, layout.Layout{
		Text:   [][]int{{0, 5, 6, 6, 8, 12}, {20}, nil, {21, 21, 25, 31, 33, 34}},
		Data:   [][]int{{48}, nil, {52}, nil},
		Pools:  []int{15},
		Labels: []int{6},
		Code:   36, Start: 48, Size: 53,
	})
}

// example answers an item with that operation.
func example(op int) api.Item {
	o, _ := isa.At(op)
	x := api.Item{Kind: api.Code, Inst: api.Inst{Op: op}}
	switch o.Shape {
	case isa.Wide, isa.Load, isa.Jump, isa.Branch:
		x.E = expr.Of(uint32(op))
	}
	return x
}

// Each operation takes as many bytes as its shape has, with its form.
func TestEachOperation(t *testing.T) {
	want := map[int]int{
		isa.None: 1, isa.Reg: 2, isa.ZReg: 2, isa.Two: 2, isa.ZTwo: 2, isa.Part: 2, isa.Build: 3,
		isa.Small: 3, isa.Own: 2, isa.Wide: 6, isa.Load: 4, isa.Jump: 1, isa.Branch: 2,
	}
	for i, o := range isa.Ops() {
		p := program(api.Unit{Text: []api.Item{example(i + 1), {Kind: api.Label, Name: "a"}, {Kind: api.Pool}}})
		if o.Shape != isa.Jump && o.Shape != isa.Branch {
			if l := of(t, p); l.Labels[0] != want[o.Shape] {
				t.Errorf("%s: %+v", o.Name, l)
			}
			agrees(t, p, nil)
			continue
		}
		for _, form := range []int{1, 2, 4} {
			if l := of(t, p, form); l.Labels[0] != want[o.Shape]+form {
				t.Errorf("%s by %d: %+v", o.Name, form, l)
			}
			agrees(t, p, []int{form})
		}
	}
}

// What an instruction holds does not change its length.
func TestNumbersAndRegisters(t *testing.T) {
	for _, s := range []struct {
		src  string
		want int
	}{
		{"lis r7, -128", 3}, {"lis r0, 127", 3}, {"trap 255", 2}, {"trap 0", 2}, {"zset z3, r7, r7", 3}, {"zset z0, r0, r0", 3},
		{"li r7, 0xffffffff", 6}, {"li r0, 0", 6}, {"zim r7, z3", 2}, {"stm r7, r7", 2}, {"pop r7", 2}, {"zconj z3", 2},
	} {
		p := linked(s.src)
		lies(t, p, nil, one(s.want, 16, 16, []int{0}, nil))
	}
}

// Align from each address, to each size, in both sections.
func TestAlign(t *testing.T) {
	for n := 1; n <= 256; n *= 2 {
		for _, ahead := range []int{0, 1, 2, 3, n - 1, n, n + 1, 2*n - 1, 2 * n, 3*n + 1} {
			want := (ahead + n - 1) / n * n
			size := strconv.Itoa(n)
			p := linked(nops(ahead) + lines("align "+size, "a: halt"))
			l := of(t, p)
			if l.Labels[0] != want || l.Text[0][ahead] != ahead || l.Code != want+1 {
				t.Errorf("align %d at %d: %+v", n, ahead, l)
			}

			// Data begin at 0 here, and at a multiple of 16 in the next one.
			p = linked(lines("section data", "space "+strconv.Itoa(ahead), "align "+size, "a: byte 1"))
			l = of(t, p)
			if l.Labels[0] != want || l.Data[0][1] != ahead || l.Size != want+1 {
				t.Errorf("align %d in data at %d: %+v", n, ahead, l)
			}
			agrees(t, linked(lines("nop", "section data", "space "+strconv.Itoa(ahead), "align "+size, "a: byte 1")), nil)
		}
	}
	// One behind the other, at the end, and over units.
	lies(t, linked(lines("nop", "align 2", "align 8", "align 4", "align 8")), nil, one(8, 16, 16, []int{0, 1, 2, 8, 8}, nil))
	p := linked("nop", "align 4", "a: nop\nsection data\nbyte 1", "section data\nalign 4\nb:")
	lies(t, p, nil, layout.Layout{
		Text: [][]int{{0}, {1}, {4, 4}, nil}, Data: [][]int{nil, nil, {16}, {17, 20}},
		Labels: []int{4, 20}, Code: 5, Start: 16, Size: 20,
	})
}

func TestStart(t *testing.T) {
	for n := range 70 {
		p := linked(nops(n) + "section data\na: byte 1")
		l := of(t, p)
		want := 0
		for want < n {
			want += 16
		}
		if l.Code != n || l.Start != want || l.Labels[0] != want || l.Size != want+1 {
			t.Errorf("%d nops: %+v", n, l)
		}
	}
}

func TestEachKindOfDatum(t *testing.T) {
	p := linked(
		lines("section data", "a: byte 1, 2", "b: word 3, a", "c: space 5", "d: space 0", "e: align 8", "f: byte -1", "g:"),
		lines("h: jmp h", "section data", "i: align 2", "j: word 1"),
	)
	lies(t, p, []int{2}, layout.Layout{
		Text:   [][]int{nil, {0, 0}},
		Data:   [][]int{{16, 16, 17, 18, 18, 22, 26, 26, 31, 31, 31, 31, 32, 32, 33}, {33, 33, 34, 34}},
		Labels: []int{16, 18, 26, 31, 31, 32, 33, 0, 33, 34},
		Code:   3, Start: 16, Size: 38,
	})
}

func TestWithoutItems(t *testing.T) {
	lies(t, linked(""), nil, one(0, 0, 0, nil, nil))
	lies(t, linked("", "", ""), nil, layout.Layout{Text: [][]int{nil, nil, nil}, Data: [][]int{nil, nil, nil}})
	lies(t, linked("", "nop", ""), nil, layout.Layout{Text: [][]int{nil, {0}, nil}, Data: [][]int{nil, nil, nil}, Code: 1, Start: 16, Size: 16})
	lies(t, linked("section data\nbyte 7"), nil, one(0, 0, 1, nil, []int{0}))
	lies(t, linked("equ a, 5\nglobal a"), nil, one(0, 0, 0, nil, nil))
	// Items that take no byte.
	want := one(0, 0, 0, []int{0, 0, 0}, []int{0, 0, 0})
	want.Labels = []int{0, 0}
	lies(t, linked(lines("a: align 256", "pool", "section data", "b: space 0", "align 256")), nil, want)
}

func TestPools(t *testing.T) {
	// At an item Pool, and behind the last item; one that two loads share.
	p := linked(lines("ldp r1, =1", "ldp r2, =2", "ldp r3, =1", "a: pool", "b: nop", "ldp r4, =1", "c: nop", "d:"), "e: nop")
	lies(t, p, nil, layout.Layout{
		Text: [][]int{{0, 4, 8, 12, 12, 21, 21, 22, 26, 26, 27}, {32, 32}}, Data: [][]int{nil, nil},
		Pools: []int{12, 27}, Labels: []int{12, 21, 26, 27, 32}, Code: 33, Start: 48, Size: 48,
	})
	// An item Pool without a pool takes none, ahead of loads, behind another one and at the end.
	want := one(9, 16, 16, []int{0, 0, 4, 9, 9}, nil)
	want.Pools, want.Labels = []int{4}, []int{9}
	lies(t, linked(lines("pool", "ldp r1, =1", "pool", "pool", "a:")), nil, want)
	// A pool ahead of an align: the padding is the align's, not the pool's.
	want = one(17, 32, 32, []int{0, 4, 9, 16}, nil)
	want.Pools = []int{4}
	lies(t, linked(lines("ldp r1, =1", "pool", "align 16", "nop")), nil, want)
	// The end of a unit that has nothing but a load.
	p = linked("ldp r1, =1", "ldp r1, =1", "", "ldp r1, =1\npool")
	lies(t, p, nil, layout.Layout{
		Text: [][]int{{0}, {9}, nil, {18, 22}}, Data: [][]int{nil, nil, nil, nil},
		Pools: []int{4, 13, 22}, Code: 27, Start: 32, Size: 32,
	})
	// Data have no pools: a unit of data whose numbers are those of a pool's place.
	p = linked(lines("ldp r1, =1", "pool", "section data", "byte 1, 2, 3"))
	want = one(9, 16, 19, []int{0, 4}, []int{16, 17, 18})
	want.Pools = []int{4}
	lies(t, p, nil, want)
}

func TestLabelsAtTheEnds(t *testing.T) {
	p := linked(
		lines("a: nop", "b:", "section data", "c: byte 1", "d:"),
		lines("e:", "section data", "f:"),
		lines("ldp r1, =g", "g:", "section data", "h: word 1", "i:"),
	)
	lies(t, p, nil, layout.Layout{
		Text: [][]int{{0, 0, 1}, {1}, {1, 5}}, Data: [][]int{{16, 16, 17}, {17}, {17, 17, 21}},
		Pools: []int{5}, Labels: []int{0, 1, 16, 17, 1, 17, 5, 17, 21}, Code: 10, Start: 16, Size: 21,
	})
}

// P14.2

func TestValue(t *testing.T) {
	p := linked(lines("a: jmp b", "nop", "b: halt", "section data", "c: word 1", "d:"))
	l := of(t, p, 1)
	for _, c := range []struct {
		x    string
		want uint32
	}{
		{"0", 0}, {"7", 7}, {"0xffffffff", math.MaxUint32},
		{"L0", 0}, {"L1", 3}, {"L2", 16}, {"L3", 20}, {"L3-L2", 4}, {"L2-L3", math.MaxUint32 - 3},
		{"2*L1+5", 11}, {"-L1", math.MaxUint32 - 2}, {"L0+L1+L2+L3+1", 40}, {"L1-3", 0}, {"L1-4", math.MaxUint32},
		{"0x80000000*L2", 0}, {"0x80000000*L1", 1 << 31}, {"0x55555556*L1", 2}, {"0xffffffff*L3", math.MaxUint32 - 19}, {"L1+0xffffffff", 2},
		// Words that are none: of no label, with noughts ahead, of another kind.
		{"L4", 0}, {"L5+L1", 3}, {"L10+L1", 3}, {"L01", 0}, {"L00", 0}, {"L001+2", 2}, {"L03", 0}, {"L", 0}, {"l1", 0}, {"L1x", 0}, {"L1L", 0}, {"LL1", 0}, {"L_1", 0}, {"x", 0}, {"a", 0}, {"c+9*L1", 27}, {"E1", 0},
		{"L4294967297", 0}, {"L4294967296", 0}, {"L9223372036854775807", 0}, {"L9223372036854775808", 0}, {"L18446744073709551617", 0}, {"L18446744073709551616", 0}, {"L99999999999999999999999999", 0},
	} {
		if got := layout.Value(l, lin(c.x)); got != c.want {
			t.Errorf("%s: %d, not %d", c.x, got, c.want)
		}
	}
	// Texts that are no names.
	for _, name := range []string{"", "L+1", "L-1", "L-0", "L 1", " L1", "L1 ", "L1.0", "L0x1", "L1e0", "L1_0", "L\x001", "1", "L１", "L-9223372036854775808", "L+"} {
		if got := layout.Value(l, api.Lin{Terms: []api.Term{{Name: name, Coef: 5}}, Const: 2}); got != 2 {
			t.Errorf("%q: %d", name, got)
		}
	}
}

// Every label's word, where the numbers have several digits.
func TestManyWords(t *testing.T) {
	src := ""
	for i := range 1200 {
		src += "x" + strconv.Itoa(i) + ": halt\n"
	}
	l := of(t, linked(src))
	for i := range 1200 {
		if got := layout.Value(l, lin("2*L"+strconv.Itoa(i)+"+1")); got != uint32(2*i+1) {
			t.Fatalf("L%d: %d", i, got)
		}
	}
	if got := layout.Value(l, lin("L1200+L12000")); got != 0 {
		t.Errorf("%d", got)
	}
}

// P14.3

func TestDispOfEachForm(t *testing.T) {
	for _, op := range []struct {
		src  string
		size int
	}{{"jmp b", 1}, {"call b", 1}, {"jz r3, b", 2}, {"jnz r0, b", 2}} {
		for _, form := range []int{1, 2, 4} {
			// Behind it, ahead of it, and itself.
			p := linked(lines(op.src, "nop", "nop", "b: halt"))
			spansBy(t, p, of(t, p, form), 0, 0, 2)
			p = linked(lines("b: nop", "nop", "nop", op.src))
			spansBy(t, p, of(t, p, form), 0, 4, -3-op.size-form)
			p = linked("b: " + op.src)
			spansBy(t, p, of(t, p, form), 0, 1, -op.size-form)
			p = linked(lines(op.src, "b:"))
			spansBy(t, p, of(t, p, form), 0, 0, 0)
		}
	}
}

// What lies behind a jump that ends its unit: a pool, the next unit's items, nothing.
func TestDispAtTheEnd(t *testing.T) {
	for _, form := range []int{1, 2, 4} {
		p := linked(lines("ldp r1, =5", "a: jmp a"), "nop")
		spansBy(t, p, of(t, p, form), 0, 2, -1-form)
		p = linked(lines("a: ldp r1, =5", "pool", "jmp a"), "nop")
		spansBy(t, p, of(t, p, form), 0, 3, -10-form)
		p = linked("a: jmp a", "", "pool", "nop")
		spansBy(t, p, of(t, p, form), 0, 1, -1-form)
		p = linked("nop", "a: jmp a", "align 64\nnop", "ldp r1, =5")
		spansBy(t, p, of(t, p, form), 1, 1, -1-form)
		p = linked("ldp r1, =5", "a: jmp a", "", "")
		spansBy(t, p, of(t, p, form), 1, 1, -1-form)
		p = linked("a: jmp a\nsection data\nbyte 1")
		spansBy(t, p, of(t, p, form), 0, 1, -1-form)
		// A jump ahead of what has no byte, or many.
		p = linked(lines("a: jmp a", "b: align 256", "nop"))
		spansBy(t, p, of(t, p, form), 0, 1, -1-form)
		p = linked(lines("ldp r1, =1", "ldp r2, =2", "a: jmp a", "pool", "nop"))
		spansBy(t, p, of(t, p, form), 0, 3, -1-form)
	}
}

// Targets that are no label, or that wrap.
func TestDispModulo(t *testing.T) {
	for _, c := range []struct {
		target string
		want   int
	}{
		{"0", -2}, {"2", 0}, {"1", -1}, {"0x80000001", math.MaxInt32}, {"0x80000002", math.MinInt32}, {"0x7fffffff", math.MaxInt32 - 2},
		{"0xffffffff", -3}, {"-1", -3}, {"a", 0}, {"-a", -4}, {"0x80000000*a", -2}, {"0x80000000*a-0x80000000", math.MaxInt32 - 1}, {"d", 14}, {"d-a+5", 17}, {"3*d-2*a", 42},
	} {
		p := linked(lines("jmp "+c.target, "a: halt", "section data", "d: byte 1"))
		spansBy(t, p, of(t, p, 1), 0, 0, c.want)
		agrees(t, p, []int{1})
		agrees(t, p, []int{4})
	}
}

func TestDist(t *testing.T) {
	p := linked(
		lines("a: ldp r1, =a", "nop", "ldp r2, =b", "ldp r3, =a", "pool", "ldp r4, =b"),
		lines("b: ldp r1, =1", "ldp r1, =2", "ldp r1, =3", "global b"),
		"ldp r7, =1",
	)
	l := of(t, p)
	// The pools: at 13 with a, b; at 26 with b; at 43 with 1, 2, 3; at 60 with 1.
	loadsBy(t, p, l, 0, 1, 10)
	loadsBy(t, p, l, 0, 3, 9)
	loadsBy(t, p, l, 0, 4, 1)
	loadsBy(t, p, l, 0, 6, 1)
	for i := range 3 {
		loadsBy(t, p, l, 1, 1+i, 9)
	}
	loadsBy(t, p, l, 2, 0, 1)
	for _, i := range []int{0, 2, 5, 7} {
		noLoad(t, p, l, 0, i)
	}
	// Jumps between a load and its pool count with their forms.
	p = linked(lines("ldp r1, =5", "jmp 0", "jz r1, 0"))
	for _, forms := range allForms(2) {
		loadsBy(t, p, of(t, p, forms...), 0, 0, 4+forms[0]+forms[1])
	}
	// And aligns as they lie.
	p = linked(lines("nop", "ldp r1, =5", "align 32"))
	loadsBy(t, p, of(t, p), 0, 1, 28)
}

func TestOfWhatIsNone(t *testing.T) {
	p := linked("a: jmp a\nldp r1, =1\nsection data\nword 1, 2, 3", "ldp r1, =2\nldp r2, =3", "section data\nword 1, 2, 3")
	l := of(t, p, 2)
	numbers := []int{math.MinInt, -65, -3, -2, -1, 3, 4, 8192, math.MaxInt}
	for _, n := range numbers {
		for _, i := range append(numbers, 0, 1, 2) {
			noSpan(t, p, l, n, i)
			noLoad(t, p, l, n, i)
			if i > 2 || i < 0 {
				noSpan(t, p, l, 0, i)
				noLoad(t, p, l, 0, i)
			}
		}
	}
	noSpan(t, p, l, 0, 2)
	noSpan(t, p, l, 1, 0)
	noSpan(t, p, l, 2, 0)
	noLoad(t, p, l, 0, 0)
	noLoad(t, p, l, 0, 1)
	noLoad(t, p, l, 2, 0)
}

// Of every kind of item and operation just the span instructions have a Disp, and just the loads a Dist.
func TestOfEachKindOfItem(t *testing.T) {
	var u api.Unit
	for op := range isa.Ops() {
		u.Text = append(u.Text, example(op+1))
	}
	u.Text = append(u.Text, api.Item{Kind: api.Label, Name: "jmp"}, api.Item{Kind: api.Align, N: 32}, api.Item{Kind: api.Pool}, api.Item{Kind: api.Align, N: 1})
	p := program(u)
	l := of(t, p, 1, 2, 4, 1)
	for i := range u.Text {
		// Numbers begin at 1: jmp, call, jz, jnz are 40 to 43, ldp is 39.
		if got, want := disp(p, l, 0, i).ok, i >= 39 && i <= 42; got != want {
			t.Errorf("Disp of item %d: %v", i, got)
		}
		if got, want := dist(p, l, 0, i).ok, i == 38; got != want {
			t.Errorf("Dist of item %d: %v", i, got)
		}
	}
	agrees(t, p, []int{1, 2, 4, 1})
	agrees(t, p, []int{4, 1, 2, 2})
}

// P14.4

// farthest answers the greatest distance of all loads.
func farthest(p *link.Program, l layout.Layout) int {
	most := 0
	for n := range p.Units() {
		for i, x := range p.Items(n, text) {
			if isLoad(x) {
				most = max(most, dist(p, l, n, i).n)
			}
		}
	}
	return most
}

func TestJudgeReach(t *testing.T) {
	for i, c := range []struct {
		srcs  []string
		forms []int
		most  int
	}{
		{[]string{"ldp r1, =5\n" + nops(4093)}, nil, 4094},
		{[]string{"ldp r1, =5\n" + nops(4094)}, nil, 4095},
		{[]string{"ldp r1, =5\n" + nops(4095)}, nil, 4096},
		// By the form alone.
		{[]string{"ldp r1, =5\njmp 0\n" + nops(4091)}, []int{1}, 4094},
		{[]string{"ldp r1, =5\njmp 0\n" + nops(4091)}, []int{2}, 4095},
		{[]string{"ldp r1, =5\njmp 0\n" + nops(4091)}, []int{4}, 4097},
		// The load that is too far lies in a later pool, or in another unit.
		{[]string{"ldp r1, =5\npool\nnop\nldp r1, =6\n" + nops(4085) + "align 256"}, nil, 4339},
		{[]string{"ldp r1, =5\npool\nldp r1, =6\n" + nops(4092) + "jmp 0"}, []int{1}, 4095},
		{[]string{"ldp r1, =5\npool\nldp r1, =6\n" + nops(4092) + "jmp 0"}, []int{2}, 4096},
		{[]string{"ldp r1, =5", nops(4096), "pool\nnop\nldp r1, =6\n" + nops(4092)}, nil, 4093},
		{[]string{"ldp r1, =5", nops(4096), "nop\nldp r1, =6\n" + nops(4094)}, nil, 4095},
		{[]string{"ldp r1, =5", nops(4096), "ldp r1, =6\n" + nops(4095), "ldp r1, =5"}, nil, 4096},
		// Only the middle one of three pools.
		{[]string{"ldp r1, =5\npool", "ldp r1, =6\n" + nops(2000) + "align 256\n" + nops(2050) + "align 256\nnop\npool\nldp r1, =7"}, nil, 4341},
		// Another one of the same literal is nearer.
		{[]string{"ldp r1, =5\n" + nops(4090) + "ldp r2, =5"}, nil, 4095},
		{[]string{"ldp r1, =5\n" + nops(4091) + "ldp r2, =5"}, nil, 4096},
		{[]string{"ldp r1, =5\n" + nops(4091) + "pool\nldp r2, =5"}, nil, 4092},
		// Several literals.
		{[]string{"ldp r1, =5\n" + nops(4086) + "ldp r2, =6\nldp r3, =7"}, nil, 4095},
		{[]string{"ldp r1, =5\n" + nops(4087) + "ldp r2, =6\nldp r3, =7"}, nil, 4096},
		{[]string{"ldp r1, =5\nldp r2, =5\nldp r3, =6\n" + nops(4086)}, nil, 4095},
		{[]string{"ldp r1, =5\nldp r2, =5\nldp r3, =6\n" + nops(4087)}, nil, 4096},
	} {
		p := linked(c.srcs...)
		l := of(t, p, c.forms...)
		if most := farthest(p, l); most != c.most {
			t.Errorf("%d: the greatest distance is %d, not %d", i, most, c.most)
		}
		want := api.OK
		if c.most > 4095 {
			want = api.ErrReach
		}
		judged(t, p, l, want)
	}
}

// As many loads as reach, each with a literal of its own: all lie equally far.
func TestJudgeManyLiterals(t *testing.T) {
	for _, c := range []struct{ loads, nops, most int }{{1024, 0, 4093}, {1024, 2, 4095}, {1024, 3, 4096}, {1025, 0, 4097}} {
		src := ""
		for i := range c.loads {
			src += "ldp r1, =" + strconv.Itoa(i) + "\n"
		}
		p := linked(src + nops(c.nops))
		l := of(t, p)
		for _, i := range []int{0, 1, c.loads / 2, c.loads - 1} {
			loadsBy(t, p, l, 0, i, c.most)
		}
		want := api.OK
		if c.most > 4095 {
			want = api.ErrReach
		}
		judged(t, p, l, want)
	}
}

func TestJudgeSize(t *testing.T) {
	for _, c := range []struct {
		srcs []string
		size int
	}{
		{[]string{"section data\nspace 1048575"}, 1048575},
		{[]string{"section data\nspace 1048576"}, 1048576},
		{[]string{"section data\nspace 1048576\nspace 0\na: align 256"}, 1048576},
		{[]string{"section data\nspace 1048576\nbyte 1"}, 1048577},
		{[]string{"nop\nsection data\nspace 1048560"}, 1048576},
		{[]string{"nop\nsection data\nspace 1048561"}, 1048577},
		{[]string{"nop\nsection data\nspace 1048576"}, 1048592},
		{[]string{"section data\nspace 1048575\nalign 256"}, 1048576},
		{[]string{"section data\nspace 1048572", "section data\nword 1"}, 1048576},
		{[]string{"section data\nspace 1048573", "section data\nword 1"}, 1048577},
		{[]string{"section data\nspace 1048576", "section data\nspace 1048576", "section data\nspace 1048576"}, 3145728},
		{[]string{""}, 0},
	} {
		p := linked(c.srcs...)
		l := of(t, p)
		if l.Size != c.size {
			t.Errorf("%q: %d bytes, not %d", c.srcs, l.Size, c.size)
		}
		want := api.OK
		if c.size > 1048576 {
			want = api.ErrImage
		}
		judged(t, p, l, want)
	}
}

// The code alone may be too large.
func TestJudgeSizeOfCode(t *testing.T) {
	var u api.Unit
	for range 4096 {
		u.Text = append(u.Text, api.Item{Kind: api.Align, N: 256}, example(1))
	}
	for _, c := range []struct {
		src        string
		code, size int
		want       api.Errno
	}{
		{"", 1048321, 1048336, api.OK},
		{"align 256", 1048576, 1048576, api.OK},
		{"align 256\nnop", 1048577, 1048592, api.ErrImage},
	} {
		p := program(u, unitOf(c.src))
		l := of(t, p)
		if l.Code != c.code || l.Start != c.size || l.Size != c.size {
			t.Errorf("%q: %d, %d, %d", c.src, l.Code, l.Start, l.Size)
		}
		judged(t, p, l, c.want)
	}
}

// A form may make an image too large: a jump that ends right at Start, or behind it.
func TestJudgeSizeByForms(t *testing.T) {
	p := linked(nops(14) + "jmp 0\nsection data\nspace 1048560")
	judged(t, p, of(t, p, 1), api.OK)
	judged(t, p, of(t, p, 2), api.ErrImage)
	judged(t, p, of(t, p, 4), api.ErrImage)
}

// Both at once: a pool that is too far comes first.
func TestJudgeBoth(t *testing.T) {
	p := linked("ldp r1, =5\n"+nops(4095), "section data\nspace 1048576")
	judged(t, p, of(t, p), api.ErrReach)
	p = linked("ldp r1, =5\n"+nops(4094), "section data\nspace 1048576")
	judged(t, p, of(t, p), api.ErrImage)
	p = linked("section data\nspace 1048576", "ldp r1, =5\n"+nops(4095))
	judged(t, p, of(t, p), api.ErrReach)
}

// P14.5

// noLower asks that no address of m is lower than that of l.
func noLower(t *testing.T, l, m layout.Layout) {
	t.Helper()
	a, b := flat(l), flat(m)
	if len(a) != len(b) {
		t.Fatalf("%s, %s", short(l), short(m))
	}
	for i := range a {
		if a[i] > b[i] {
			t.Fatalf("%s, then %s", short(l), short(m))
		}
	}
}

// flat answers all addresses of l.
func flat(l layout.Layout) []int {
	out := []int{l.Code, l.Start, l.Size}
	for _, all := range [][][]int{l.Text, l.Data, {l.Pools, l.Labels}} {
		for _, x := range all {
			out = append(out, x...)
		}
	}
	return out
}

func TestLongerForms(t *testing.T) {
	d := drawer{Rand: rand.New(rand.NewSource(5)), noAlign: true}
	grown := 0
	for range 1000 {
		p := d.program()
		forms := d.forms(p)
		longer := d.longer(forms)
		l, m := of(t, p, forms...), of(t, p, longer...)
		noLower(t, l, m)
		if m.Code > l.Code {
			grown++
		}
	}
	if grown < 300 {
		t.Errorf("%d of them are longer: too few to tell", grown)
	}
}

// Every choice of a few forms against every longer one.
func TestAllLongerForms(t *testing.T) {
	p := linked(lines("a: jmp b", "ldp r1, =a", "jz r1, a", "pool", "b: call a"), lines("ldp r1, =5", "jnz r2, 7", "section data", "byte 1", "align 8", "c: word 1"))
	all := allForms(4)
	for _, forms := range all {
		agrees(t, p, forms)
		for _, longer := range all {
			if isLonger(forms, longer) {
				noLower(t, of(t, p, forms...), of(t, p, longer...))
			}
		}
	}
}

// isLonger tells whether none of b is shorter than that of a.
func isLonger(a, b []int) bool {
	for i := range a {
		if b[i] < a[i] {
			return false
		}
	}
	return true
}

// With an Align in Text a longer form takes what the padding had.
func TestAlignTakesUpForms(t *testing.T) {
	p := linked(lines("ldp r1, =1", "jmp 0", "align 16", "a: nop"))
	for _, form := range []int{1, 2, 4} {
		if l := of(t, p, form); l.Labels[0] != 16 || l.Text[0][2] != 5+form {
			t.Errorf("%+v", l)
		}
	}
}

// All, against the chapter said anew.

func TestDrawnPrograms(t *testing.T) {
	d := drawer{Rand: rand.New(rand.NewSource(14))}
	pools, spans := 0, 0
	for range 1500 {
		p := d.program()
		forms := d.forms(p)
		agrees(t, p, forms)
		pools += len(of(t, p, forms...).Pools)
		spans += len(forms)
	}
	if pools < 1500 || spans < 1500 {
		t.Errorf("%d pools, %d span instructions: too few to tell", pools, spans)
	}
}

// All ways of few lines, each with all forms.
func TestAllShortTexts(t *testing.T) {
	parts := []string{"", "nop", "pool", "ldp r1, =a", "ldp r2, =1", "jmp a", "align 4", "a:"}
	var extend func(l []string, used bool)
	extend = func(l []string, used bool) {
		if len(l) == 4 {
			src := lines(l...)
			if !used {
				src += "\nsection data\na:"
			}
			p := linked(src, "nop")
			for _, forms := range allForms(p.Spans()) {
				agrees(t, p, forms)
			}
			return
		}
		for _, c := range parts {
			if c != "a:" || !used {
				extend(append(l, c), used || c == "a:")
			}
		}
	}
	extend(nil, false)
}

// Wrong inputs.

func TestOfNoProgram(t *testing.T) {
	l := of(t, linked("a: jmp a\nldp r1, =1"), 1)
	for _, m := range []layout.Layout{{}, l} {
		for _, n := range []int{-1, 0, 1} {
			noSpan(t, nil, m, n, n)
			noLoad(t, nil, m, n, n)
		}
		noSpan(t, nil, m, 0, 1)
		noLoad(t, nil, m, 0, 2)
		judged(t, nil, m, api.ErrArg)
	}
	m := l
	m.Size = 1 << 21
	judged(t, nil, m, api.ErrArg)
	if got, why := layout.Of(nil, nil); why != api.ErrArg || !isNone(got) {
		t.Errorf("%v, %+v", why, got)
	}
}

// Layouts that are not those of the program: nothing is promised but that the calls end.
func TestForeignLayouts(t *testing.T) {
	d := drawer{Rand: rand.New(rand.NewSource(9))}
	var programs []*link.Program
	var layouts []layout.Layout
	for range 12 {
		p := d.program()
		programs = append(programs, p)
		layouts = append(layouts, of(t, p, d.forms(p)...))
	}
	programs = append(programs, linked(""), linked("a: jmp a"), linked("ldp r1, =1"), linked("", "ldp r1, =1", "jmp 0"))
	least, most := []int{math.MinInt}, []int{math.MaxInt}
	layouts = append(layouts,
		layout.Layout{}, layout.Layout{Text: [][]int{}, Data: [][]int{}, Pools: []int{}, Labels: []int{}},
		layout.Layout{Text: [][]int{nil}}, layout.Layout{Text: [][]int{nil, nil, nil, nil}, Pools: []int{1}},
		layout.Layout{Text: [][]int{least, most}, Data: [][]int{most}, Pools: least, Labels: most, Code: math.MinInt, Start: -1, Size: math.MinInt},
		layout.Layout{Text: [][]int{most, least}, Data: [][]int{least}, Pools: most, Labels: least, Code: math.MaxInt, Start: -1, Size: math.MaxInt},
		layout.Layout{Labels: []int{-1, -2, -3}, Pools: []int{-5, -7}, Text: [][]int{{-1, 7, -3}}},
	)
	for _, p := range programs {
		for _, l := range layouts {
			layout.Judge(p, l)
			for n := -1; n <= p.Units(); n++ {
				items := p.Items(n, text)
				for i := -1; i <= len(items); i++ {
					layout.Disp(p, l, n, i)
					layout.Dist(p, l, n, i)
					if i >= 0 && i < len(items) {
						layout.Value(l, items[i].E)
					}
				}
			}
		}
	}
}

// Value ends whatever Lin it is given.
func TestValueOfLinsThatAreNotRight(t *testing.T) {
	l := of(t, linked("nop\na: nop\nb: nop"))
	for _, x := range []api.Lin{
		{Terms: []api.Term{{}}}, {Terms: []api.Term{{Name: "L1", Coef: 0}}}, {Terms: []api.Term{{Name: "L1", Coef: 1}, {Name: "L0", Coef: 1}}},
		{Terms: []api.Term{{Name: "L1", Coef: 1}, {Name: "L1", Coef: 1}}}, {Terms: []api.Term{{Name: "r1", Coef: 1}, {Name: "\xff", Coef: 1}}},
	} {
		layout.Value(l, x)
		layout.Value(layout.Layout{}, x)
	}
}
