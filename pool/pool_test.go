package pool_test

import (
	"math"
	"math/rand"
	"strconv"
	"testing"

	"spandrel/api"
	"spandrel/expr"
	"spandrel/isa"
	"spandrel/pool"
)

// The chapter's runs and examples.

func TestRuns(t *testing.T) {
	p := linked(lines("ldp r1, =a", "ldp r2, =a", "ldp r3, =a+0*b", "a: halt"))
	has(t, p, at(0, 5, "L0"))

	p = linked(lines("ldp r1, =1", "pool", "ldp r2, =1"))
	has(t, p, at(0, 1, "1"), at(0, 3, "1"))

	has(t, linked("pool"))
}

func TestExamples(t *testing.T) {
	// No loads: no pools.
	has(t, linked(lines("a: jmp a", "li r1, a", "halt")))

	// Slot of a jump: false.
	p := linked(lines("a: jmp a", "ldp r1, =a"))
	noLoad(t, p, 0, 1)
	lies(t, p, 0, 2, 0, 0)

	// Two units never share a pool.
	p = linked("ldp r1, =1", "ldp r1, =1")
	has(t, p, at(0, 1, "1"), at(1, 1, "1"))
	lies(t, p, 0, 0, 0, 0)
	lies(t, p, 1, 0, 1, 0)
}

// P13.1

func TestSeveralPoolsOfOneUnit(t *testing.T) {
	p := linked(lines("ldp r1, =1", "nop", "ldp r2, =2", "pool", "ldp r3, =2", "ldp r4, =3", "pool", "halt", "ldp r5, =1", "jmp 0"))
	has(t, p, at(0, 3, "1", "2"), at(0, 6, "2", "3"), at(0, 10, "1"))
	lies(t, p, 0, 0, 0, 0)
	lies(t, p, 0, 2, 0, 1)
	lies(t, p, 0, 4, 1, 0)
	lies(t, p, 0, 5, 1, 1)
	lies(t, p, 0, 8, 2, 0)
}

func TestSeveralUnits(t *testing.T) {
	p := linked(
		lines("a: ldp r1, =a", "pool", "ldp r1, =b", "global a"),
		"nop",
		lines("pool", "b: ldp r1, =b", "ldp r1, =a", "ldp r1, =b", "global b"),
		"",
		lines("a: ldp r1, =a", "ldp r2, =b", "pool", "ldp r3, =a"),
	)
	// L0 is a of unit 0, L1 is b, L2 is a of unit 4.
	has(t, p, at(0, 2, "L0"), at(0, 4, "L1"), at(2, 5, "L1", "L0"), at(4, 3, "L2", "L1"), at(4, 5, "L2"))
	lies(t, p, 0, 1, 0, 0)
	lies(t, p, 0, 3, 1, 0)
	lies(t, p, 2, 2, 2, 0)
	lies(t, p, 2, 3, 2, 1)
	lies(t, p, 2, 4, 2, 0)
	lies(t, p, 4, 1, 3, 0)
	lies(t, p, 4, 2, 3, 1)
	lies(t, p, 4, 4, 4, 0)
}

func TestNoLoads(t *testing.T) {
	has(t, linked(""))
	has(t, linked("", "", ""))
	has(t, linked("pool", "pool\npool\npool"))
	has(t, linked("section data\nword 1, 2\nbyte 39"))
	has(t, linked("a: li r1, a\nlis r1, 39\ntrap 39\njmp a\nalign 4\npool"))
	// What stands in Data has no literal, and what it says is none.
	has(t, linked("section data\nx: word x, 5\nsection text\nldp r1, =x+5"), at(0, 1, "L0+5"))
}

// A pool that no load lies ahead of is none, wherever it stands.
func TestPoolsWithoutLoads(t *testing.T) {
	has(t, linked(lines("pool", "ldp r1, =1")), at(0, 2, "1"))
	has(t, linked(lines("pool", "pool", "ldp r1, =1", "pool")), at(0, 3, "1"))
	has(t, linked(lines("ldp r1, =1", "pool", "pool", "halt")), at(0, 1, "1"))
	has(t, linked(lines("ldp r1, =1", "pool", "halt", "pool")), at(0, 1, "1"))
	has(t, linked(lines("ldp r1, =1", "pool", "pool", "pool", "ldp r1, =1")), at(0, 1, "1"), at(0, 5, "1"))
	has(t, linked(lines("ldp r1, =1", "pool", "nop", "pool", "ldp r1, =2", "pool", "nop")), at(0, 1, "1"), at(0, 5, "2"))
	has(t, linked("pool\nnop", lines("pool", "ldp r1, =1", "pool"), "nop\npool"), at(1, 2, "1"))
}

func TestWhereAPoolLies(t *testing.T) {
	// The first and the last item, and a load as the last one: the end is a pool, too.
	has(t, linked(lines("ldp r1, =1", "pool")), at(0, 1, "1"))
	has(t, linked("ldp r1, =1"), at(0, 1, "1"))
	has(t, linked(lines("pool", "nop", "ldp r1, =1")), at(0, 3, "1"))
	has(t, linked(lines("ldp r1, =1", "nop", "x: align 8", "y:")), at(0, 5, "1"))
	// The number of items is that of Text alone.
	has(t, linked(lines("section data", "word 1, 2, 3", "byte 1", "section text", "ldp r1, =1", "section data", "space 5")), at(0, 1, "1"))
	// A load's own pool is behind it, not the one right ahead.
	has(t, linked(lines("nop", "pool", "ldp r1, =1", "nop", "nop", "pool")), at(0, 5, "1"))
}

func TestTheOrderIsThatOfMeeting(t *testing.T) {
	has(t, linked(lines("ldp r1, =9", "ldp r1, =1", "ldp r1, =5", "ldp r1, =1", "ldp r1, =9", "ldp r1, =0")), at(0, 6, "9", "1", "5", "0"))
	has(t, linked(lines("b: ldp r1, =b", "a: ldp r1, =a", "ldp r1, =-b", "ldp r1, =7", "ldp r1, =b")), at(0, 7, "L0", "L1", "-L0", "7"))
}

func TestOfNothing(t *testing.T) {
	if l := pool.Pools(nil); len(l) != 0 {
		t.Errorf("%+v", l)
	}
	for _, n := range []int{-1, 0, 1} {
		noLoad(t, nil, n, n)
	}
}

// P13.2

func TestSlotOfWhatIsNone(t *testing.T) {
	p := linked("ldp r1, =1\nsection data\nword 1, 2, 3", "ldp r1, =2\nldp r2, =3", "section data\nword 1, 2, 3")
	for _, n := range []int{math.MinInt, -3, -2, -1, 3, 4, 64, math.MaxInt} {
		for _, i := range []int{math.MinInt, -1, 0, 1, 2, math.MaxInt} {
			noLoad(t, p, n, i)
		}
	}
	for n := range 3 {
		for _, i := range []int{math.MinInt, -3, -2, -1, 2, 3, 4, 8192, math.MaxInt} {
			noLoad(t, p, n, i)
		}
	}
	noLoad(t, p, 0, 1)
	noLoad(t, p, 2, 0)
	lies(t, p, 0, 0, 0, 0)
	lies(t, p, 1, 0, 1, 0)
	lies(t, p, 1, 1, 1, 1)
}

// example answers an item with that operation, with a literal where it may have one.
func example(op int) api.Item {
	o, _ := isa.At(op)
	x := api.Item{Kind: api.Code, Inst: api.Inst{Op: op}}
	switch o.Shape {
	case isa.Wide, isa.Load, isa.Jump, isa.Branch:
		x.E = expr.Of(uint32(op))
	}
	return x
}

func TestSlotOfEachKindOfItem(t *testing.T) {
	var u api.Unit
	for op := range isa.Ops() {
		u.Text = append(u.Text, example(op+1))
	}
	u.Text = append(u.Text, api.Item{Kind: api.Label, Name: "ldp"}, api.Item{Kind: api.Align, N: 1}, api.Item{Kind: api.Pool}, example(39))
	p := program(u)
	for i, x := range u.Text {
		if op, _ := isa.At(x.Inst.Op); op.Name != "ldp" {
			noLoad(t, p, 0, i)
		}
	}
	has(t, p, at(0, 45, "39"), at(0, 47, "39"))
	lies(t, p, 0, 38, 0, 0)
	lies(t, p, 0, 46, 1, 0)
	// An align's number is no operation's.
	noLoad(t, linked("align 32\nspot: align 8\nli r1, 39"), 0, 0)
}

// P13.3

// One literal, though it is written otherwise.
func TestLiteralsThatAreOne(t *testing.T) {
	for _, l := range [][]string{
		{"1", "0+1", "2-1", "-(-1)", "0x1", "4294967295+2"},
		{"0", "a-a", "0*a", "4294967295+1"},
		{"a", "0+a", "a+0*b", "2*a-a", "a+b-b", "(a)", "- -a"},
		{"a+b", "b+a", "b+a+0", "2*b+a-b"},
		{"-a", "0-a", "4294967295*a", "0xffffffff*a"},
		{"2*(a-3)", "2*a-6", "a+a-6", "a*2+4294967290"},
		{"e", "b+1", "1+b"},
		{"f", "2*e-a", "2*b+2-a", "b+e+1-a"},
		{"k", "0", "e-b-1"},
	} {
		src := []string{"equ f, 2*e-a", "equ e, b+1", "equ k, e-b-1", "a: ldp r7, =a+777", "b: nop"}
		for i, s := range l {
			src = append(src, "ldp r"+strconv.Itoa(i)+", ="+s)
		}
		p := linked(lines(src...))
		if got := pool.Pools(p); len(got) != 1 || len(got[0].Literals) != 2 {
			t.Errorf("%q: %s", l, short(got))
		}
		for i := range l {
			lies(t, p, 0, 4+i, 0, 1)
		}
		agrees(t, p)
	}
}

// Each differs from each other one in a term, in a coefficient or in the number alone.
func TestLiteralsThatDiffer(t *testing.T) {
	l := []string{
		"0", "1", "10", "100", "-1", "0x80000000", "2147483647",
		"a", "b", "a+b", "a-b", "b-a", "2*a", "12*a", "2*a+b", "a+2*b", "-a", "0x80000000*a",
		"a+1", "b+1", "a+10", "a-1", "2*a+1", "a+b+1", "a+b+2", "-a+1",
		"c", "a+c", "b+c", "a+b+c", "a+b+c+1", "e", "e+b",
	}
	src := []string{"a: nop", "b: nop", "c: nop", "equ e, 3*a+3*c"}
	for _, s := range l {
		src = append(src, "ldp r1, ="+s)
	}
	// And once more, from the last to the first.
	for i := range l {
		src = append(src, "ldp r2, ="+l[len(l)-1-i])
	}
	p := linked(lines(src...))
	if got := pool.Pools(p); len(got) != 1 || len(got[0].Literals) != len(l) {
		t.Errorf("%d literals: %s", len(l), short(got))
	}
	for i := range l {
		lies(t, p, 0, 6+i, 0, i)
		lies(t, p, 0, 6+len(l)+i, 0, len(l)-1-i)
	}
	agrees(t, p)
}

// Labels whose words begin alike, and numbers that look like a part of them.
func TestWordsThatBeginAlike(t *testing.T) {
	src := []string{}
	for i := range 112 {
		src = append(src, "x"+strconv.Itoa(i)+":")
	}
	l := []string{"x1", "x11", "x111", "x10", "x1+1", "x1+11", "x11+1", "11*x1", "x1+x11", "11*x11", "1", "11", "111"}
	for _, s := range l {
		src = append(src, "ldp r1, ="+s)
	}
	p := linked(lines(src...))
	has(t, p, at(0, 112+len(l), "L1", "L11", "L111", "L10", "L1+1", "L1+11", "L11+1", "11*L1", "L1+L11", "11*L11", "1", "11", "111"))
}

// Names of one's own that look like label words mean what they mean.
func TestNamesLikeWords(t *testing.T) {
	p := linked(lines("L1: ldp r1, =L1", "L0: ldp r1, =L0", "ldp r1, =L1", "equ L2, L0", "ldp r1, =L2"))
	has(t, p, at(0, 6, "L0", "L1"))
	lies(t, p, 0, 4, 0, 0)
	lies(t, p, 0, 5, 0, 1)
}

// One name in two units means two labels; two names may mean one.
func TestNamesOverUnits(t *testing.T) {
	p := linked(
		lines("x: ldp r1, =x", "ldp r1, =f", "ldp r1, =g", "ldp r1, =y"),
		lines("x: nop", "y: ldp r1, =x", "ldp r1, =y", "ldp r2, =f", "ldp r3, =g+1", "equ f, x", "equ g, y-1", "global f", "global g", "global y"),
	)
	has(t, p, at(0, 5, "L0", "L1", "L2-1", "L2"), at(1, 7, "L1", "L2"))
	lies(t, p, 1, 5, 1, 0)
	lies(t, p, 1, 6, 1, 1)
}

// Equs that come to many terms, or to none.
func TestLongEqus(t *testing.T) {
	var labels, sum, back string
	for i := range 40 {
		name := "x" + strconv.Itoa(i)
		labels += name + ":\n"
		sum += "+" + name
		back = "+" + name + back
	}
	p := linked(labels + lines("equ all, 0"+sum, "equ most, all-x39", "ldp r1, =all", "ldp r1, =most", "ldp r1, =most+x39", "ldp r1, =0"+back, "ldp r1, =all-most", "ldp r1, =x39", "ldp r1, =2*all-all"))
	for i, want := range []int{0, 1, 0, 0, 2, 2, 0} {
		lies(t, p, 0, 40+i, 0, want)
	}
	agrees(t, p)
}

// Two loads of one pool have one literal just if their Lins are one; each pool has no more literals than loads, and none is empty.
func TestWhatFollows(t *testing.T) {
	d := drawer{rand.New(rand.NewSource(3))}
	for range 300 {
		p, srcs := d.program()
		pools := pool.Pools(p)
		loads := make([]int, len(pools))
		first := map[[2]int]api.Lin{}
		for n := range p.Units() {
			for i, x := range p.Items(n, text) {
				s := slotOf(p, n, i)
				if !s.ok {
					continue
				}
				loads[s.pool]++
				if !expr.Same(x.E, pools[s.pool].Literals[s.literal]) || pools[s.pool].Unit != n || pools[s.pool].Item <= i {
					t.Fatalf("%q: the load %d, %d lies in %+v", srcs, n, i, pools[s.pool])
				}
				at := [2]int{s.pool, s.literal}
				if y, ok := first[at]; ok && !expr.Same(x.E, y) {
					t.Fatalf("%q: %+v and %+v are one literal", srcs, x.E, y)
				}
				first[at] = x.E
			}
		}
		for n, q := range pools {
			if len(q.Literals) == 0 || len(q.Literals) > loads[n] {
				t.Fatalf("%q: %d literals of %d loads", srcs, len(q.Literals), loads[n])
			}
		}
	}
}

func TestDrawnPrograms(t *testing.T) {
	d := drawer{rand.New(rand.NewSource(13))}
	pools, shared := 0, 0
	for range 2000 {
		p, _ := d.program()
		agrees(t, p)
		c := tell(p)
		pools += len(c.pools)
		for _, q := range c.pools {
			shared -= len(q.Literals)
		}
		shared += len(c.slots)
	}
	if pools < 3000 || shared < 500 {
		t.Errorf("%d pools, %d loads of a literal that was met: too few to tell", pools, shared)
	}
}

// All ways of few lines.
func TestAllShortTexts(t *testing.T) {
	parts := []string{"", "nop", "pool", "ldp r1, =a", "ldp r2, =1", "ldp r3, =a+1-1", "a:"}
	var extend func(l []string, used bool)
	extend = func(l []string, used bool) {
		if len(l) == 5 {
			src := lines(l...)
			if !used {
				src += "\na:"
			}
			agrees(t, linked(src))
			return
		}
		for _, c := range parts {
			if c != "a:" || !used {
				extend(append(l, c), used || c == "a:")
			}
		}
	}
	extend(nil, false)
}
