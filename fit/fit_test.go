package fit_test

import (
	"math"
	"math/rand"
	"slices"
	"strings"
	"testing"

	"spandrel/api"
	"spandrel/fit"
	"spandrel/layout"
	"spandrel/link"
	"spandrel/relax"
)

// The chapter's runs and examples.

func TestRuns(t *testing.T) {
	p := linked("a: jmp a")
	counts(t, p, 3)
	least(t, p, 1)
	agrees(t, p)

	p = linked(lines("jmp b", fill(130), "b: halt"))
	fails(t, p, 0, 1)
	counts(t, p, 2)
	least(t, p, 2)
	agrees(t, p)

	p = linked("nop")
	counts(t, p, 1)
	least(t, p)
	agrees(t, p)
}

func TestExamples(t *testing.T) {
	// Fits by a form of 3: ErrArg.
	refuses(t, linked("a: jmp a"), 3)
	// Nine jumps: Count ErrMany.
	many(t, linked("a:"+strings.Repeat("jmp a\n", 9)))
	// First by forms that are too few: false.
	refuses(t, linked(lines("jmp b", fill(130), "b: jmp b")), 1)
}

// Wrong inputs.

func TestNilProgram(t *testing.T) {
	for _, forms := range [][]int{nil, {}, {1}, {3}, {1, 2, 4}} {
		refuses(t, nil, forms...)
	}
	if n, why := fit.Count(nil); n != 0 || why != api.ErrArg {
		t.Errorf("Count: %d, %v", n, why)
	}
	if forms, ok, why := fit.Least(nil); len(forms) != 0 || ok || why != api.ErrArg {
		t.Errorf("Least: %v, %v, %v", forms, ok, why)
	}
}

func TestWrongForms(t *testing.T) {
	near := linked("a: jmp a\njmp a\njmp a")
	far := linked("jmp 1000\njmp 1000\njmp 1000")
	wrong := []int{0, 3, -1, -4, 5, 8, 16, 1 << 8, 1<<8 + 1, 1<<16 + 1, 1<<32 + 1, 1<<32 + 4, math.MaxInt, math.MinInt}
	for _, p := range []*link.Program{near, far} {
		for _, forms := range [][]int{nil, {}, {1}, {4, 4}, {1, 1, 1, 1}, {4, 4, 4, 4, 4, 4}} {
			refuses(t, p, forms...)
		}
		for _, form := range wrong {
			for n := range 3 {
				forms := []int{1, 1, 1}
				forms[n] = form
				refuses(t, p, forms...)
			}
			refuses(t, p, form)
		}
	}
	fits(t, near, 1, 1, 1)
	fails(t, far, 0, 1, 1, 1)
	fits(t, far, 2, 2, 2)
	for _, form := range append(wrong, 1, 2, 4) {
		refuses(t, linked("nop"), form)
	}
}

// Room behind the forms is none of them.
func TestRoomBehindForms(t *testing.T) {
	p := linked("a: jmp a\njmp 1000")
	room := []int{1, 2, 1, 1}
	fits(t, p, room[:2]...)
	refuses(t, p, room[:1]...)
	refuses(t, p, room[:3]...)
}

// How many span instructions there are.

func TestNoSpanInstructions(t *testing.T) {
	for _, srcs := range [][]string{
		{""}, {"", "", ""}, {"a:"}, {"pool"}, {"align 256"}, {"ret\njr r1\nhalt"}, {"section data\nspace 1000000\nword 1"},
		{"a: ldp r1, =a\nli r2, a\nnop", "section data\nbyte 1", "b: ldp r1, =b"}, {fill(3000)},
	} {
		p := linked(srcs...)
		fits(t, p)
		fits(t, p, []int{}...)
		counts(t, p, 1)
		least(t, p)
		agrees(t, p)
	}
	agrees(t, program(api.Unit{}))
}

func TestEightAndNine(t *testing.T) {
	for _, k := range kinds() {
		// All choices fit: 3^8.
		eight := strings.Repeat(k.name+"a\n", 8)
		p := linked("a:" + eight)
		counts(t, p, 6561)
		least(t, p, same(1, 8)...)
		// One that fits by 4 alone, behind them or ahead.
		for _, src := range []string{"a:" + strings.Repeat(k.name+"a\n", 7) + "jmp 70000", "jmp 70000\na:" + strings.Repeat(k.name+"a\n", 7)} {
			counts(t, linked(src), 2187)
		}
		// Nine, in one unit and in several.
		nine := linked("a:" + eight + "jmp a")
		many(t, nine)
		fits(t, nine, same(1, 9)...)
		fits(t, nine, same(4, 9)...)
		many(t, linked("a:"+eight, "b: call b"))
		many(t, linked("b: call b", "", "a:"+eight))
	}
	for n := range 9 {
		p := linked("a:" + strings.Repeat("jmp a\n", n))
		counts(t, p, int(math.Pow(3, float64(n))))
		least(t, p, same(1, n)...)
	}
	for _, n := range []int{9, 10, 16, 64, 1000} {
		p := linked("a:" + strings.Repeat("jnz r2, a\n", n))
		many(t, p)
		fits(t, p, same(4, n)...)
	}
	// Other instructions are not counted.
	p := linked("a: " + strings.Repeat("jr r1\nret\nldp r1, =a\nli r2, a\n", 50) + strings.Repeat("jmp b\n", 8) + "b:")
	counts(t, p, 6561)
}

// Eight of which some fit by few forms, in several units.
func TestEightThatHangOnEachOther(t *testing.T) {
	agrees(t, linked(
		lines("a: jmp b", "call c", fill(110), "jz r1, a", "global a"),
		lines("b: jnz r2, a", "align 8", "ldp r1, =b", "jmp b", fill(100), "global b"),
		lines("c: call a", "jmp d", "jz r3, c", "global c", "section data", "space 100", "d: word a"),
	))
}

// What each form holds.

// formOf answers the form of a displacement that does not hang on forms.
func formOf(n int) int {
	switch {
	case n >= -128 && n <= 127:
		return 1
	case n >= -32768 && n <= 32767:
		return 2
	}
	return 4
}

// holdsFrom asks that p, which has one span instruction, fits by that form and by the longer ones alone.
func holdsFrom(t *testing.T, p *link.Program, form int) {
	t.Helper()
	count := 0
	for _, f := range []int{1, 2, 4} {
		if f < form {
			fails(t, p, 0, f)
		} else {
			fits(t, p, f)
			count++
		}
	}
	counts(t, p, count)
	least(t, p, form)
}

func TestEachDisplacement(t *testing.T) {
	for _, k := range kinds() {
		for _, n := range []int{0, 127, -128, 255, -256, 32767, -32768, 65535, -65536, 1 << 24, math.MaxInt32 - 3, math.MinInt32 + 3} {
			for i := n - 3; i <= n+3; i++ {
				holdsFrom(t, program(api.Unit{Text: []api.Item{k.item(named("b", i)), label("b")}}), formOf(i))
			}
		}
	}
}

// A target ahead, with bytes between: the displacement is as many, by whatever form.
func TestForwards(t *testing.T) {
	for _, k := range kinds() {
		for _, n := range []int{0, 1, 63, 126, 127, 128, 129, 254, 255, 256, 32766, 32767, 32768, 32769} {
			u := api.Unit{Text: slices.Concat([]api.Item{k.item(named("b", 0))}, filler(n), []api.Item{label("b")})}
			holdsFrom(t, program(u), formOf(n))
		}
	}
}

// A target behind: the instruction's own bytes lie between, which are more with a longer form.
func TestBackwards(t *testing.T) {
	for _, k := range kinds() {
		for _, c := range []struct {
			// By form 1.
			displacement, form int
		}{
			{-127, 1}, {-128, 1}, {-129, 2}, {-130, 2}, {-256, 2}, {-257, 2}, {-32766, 2}, {-32767, 2},
			// Two bytes would hold it, but not with two bytes.
			{-32768, 4}, {-32769, 4}, {-32770, 4},
		} {
			bytes := -c.displacement - k.bytes - 1
			u := api.Unit{Text: slices.Concat([]api.Item{label("a")}, filler(bytes), []api.Item{k.item(named("a", 0))})}
			holdsFrom(t, program(u), c.form)
		}
	}
}

func TestTargetsInData(t *testing.T) {
	holdsFrom(t, linked("jmp d\nsection data\nd:"), 1)
	// Data begin at 16. By form 1 the displacement is 14 and the bytes ahead of d, by form 2 it is 13 and these.
	holdsFrom(t, linked("jmp d\nsection data\nspace 113\nd:"), 1)
	holdsFrom(t, linked("jmp d\nsection data\nspace 114\nd:"), 2)
	holdsFrom(t, linked("jmp d\nsection data\nspace 32754\nd:"), 2)
	holdsFrom(t, linked("jmp d\nsection data\nspace 32755\nd:"), 4)
	holdsFrom(t, linked("jz r1, d\nsection data\nspace 40000\nd:"), 4)
	// The code ends at 16 by form 1, and data begin at 32 by longer ones.
	holdsFrom(t, linked(fill(14)+"jmp d\nsection data\nspace 127\nd:"), 1)
	holdsFrom(t, linked(fill(14)+"jmp d\nsection data\nspace 128\nd:"), 2)
	// Behind an align of data, which a longer form lets fall to the next multiple.
	p := linked(lines("c: jmp c", "jmp d", fill(12), "section data", "space 112", "align 128", "d:"))
	fits(t, p, 1, 1)
	fails(t, p, 1, 2, 1)
	counts(t, p, 7)
	least(t, p, 1, 1)
	agrees(t, p)
}

func TestAbsoluteTargets(t *testing.T) {
	for _, c := range []struct {
		target string
		form   int
	}{
		{"0", 1}, {"2", 1}, {"129", 1}, {"130", 2}, {"32770", 2}, {"32771", 4},
		{"-1", 1}, {"0xffffffff", 1}, {"-126", 1}, {"-127", 2}, {"-32765", 2}, {"-32766", 4}, {"-32767", 4},
		{"0x7fffffff", 4}, {"0x80000000", 4}, {"0x80000001", 4}, {"0x80000002", 4},
	} {
		holdsFrom(t, linked("jmp "+c.target), c.form)
	}
	p := linked("equ e, 200\nequ f, e-150\njmp e\njnz r1, f")
	least(t, p, 2, 1)
	counts(t, p, 6)
}

// First: which of several.

func TestFirst(t *testing.T) {
	p := linked(
		lines("a: jmp a", "jmp 1000", "nop"),
		"",
		lines("pool", "a: jz r1, 70000", "ldp r1, =5"),
		lines("a: call a", "jnz r1, a", "jmp 500"),
	)
	fails(t, p, 1, 1, 1, 1, 1, 1, 1)
	fails(t, p, 1, 4, 1, 1, 1, 1, 1)
	fails(t, p, 2, 1, 2, 1, 1, 1, 1)
	fails(t, p, 2, 1, 2, 2, 1, 1, 2)
	fails(t, p, 5, 1, 2, 4, 1, 1, 1)
	fails(t, p, 5, 4, 4, 4, 4, 4, 1)
	fails(t, p, 1, 1, 1, 4, 1, 1, 2)
	fits(t, p, 1, 2, 4, 1, 1, 2)
	fits(t, p, 4, 4, 4, 4, 4, 4)
	counts(t, p, 3*2*1*3*3*2)
	least(t, p, 1, 2, 4, 1, 1, 2)
	agrees(t, p)
	// The number is one among span instructions, in programs of more than eight, too.
	far := linked(strings.Repeat("nop\nli r1, 2\njmp 1000\n", 20))
	for n := range 20 {
		fails(t, far, n, slices.Concat(same(2, n), same(1, 20-n))...)
	}
	fits(t, far, same(2, 20)...)
}

// Forms that hang on each other.

func TestJumpsOverOneAnother(t *testing.T) {
	over := func(n int) *link.Program { return linked(lines("a: jmp b", fill(n), "jmp a", "b: halt")) }
	p := over(124)
	fits(t, p, 1, 1)
	// The first one is longer, and the second one no more reaches over it.
	fails(t, p, 1, 2, 1)
	// The second one is longer, and the first one reaches over it just so.
	fits(t, p, 1, 2)
	fails(t, p, 0, 1, 4)
	counts(t, p, 6)
	least(t, p, 1, 1)

	p = over(125)
	fails(t, p, 1, 1, 1)
	fails(t, p, 0, 1, 2)
	fails(t, p, 1, 2, 1)
	fits(t, p, 2, 2)
	counts(t, p, 4)
	least(t, p, 2, 2)

	for n := 100; n < 140; n++ {
		agrees(t, over(n))
	}
}

// A displacement that a longer form of the instruction itself makes greater, by far.
func TestLongerFormThatFitsNoMore(t *testing.T) {
	p := linked("a: jmp b+40000*(b-a-2)\nb:")
	fits(t, p, 1)
	fails(t, p, 0, 2)
	fits(t, p, 4)
	counts(t, p, 2)
	least(t, p, 1)

	// It fits by none of the two shorter ones, then by one of two bytes again.
	p = linked("a: jmp b+40000*(b-a-3)\nb:")
	fails(t, p, 0, 1)
	fits(t, p, 2)
	counts(t, p, 2)
	least(t, p, 2)
}

func TestNoLeast(t *testing.T) {
	// Each reaches by one byte just if the other one has more: by 1 and 1 neither does.
	p := linked(lines("a: jmp b+200*(d-c-3)", "b:", "c: jmp d+200*(b-a-3)", "d:"))
	fails(t, p, 0, 1, 1)
	fits(t, p, 1, 2)
	fits(t, p, 2, 1)
	fits(t, p, 2, 2)
	noLeast(t, p)
	agrees(t, p)

	// The target stays, as the align takes up what the jumps grow: one of the two must be longer, whichever.
	p = linked(lines("a: jmp a", "jmp b", fill(125), "align 4", "b:"))
	fails(t, p, 1, 1, 1)
	fits(t, p, 2, 1)
	fits(t, p, 1, 2)
	fits(t, p, 4, 1)
	counts(t, p, 8)
	noLeast(t, p)
	agrees(t, p)

	// The least at each place is 1, of three of which at least one must be longer.
	p = linked(lines("nop", "nop", "a: jmp a", "c: call c", "jmp b", fill(125), "align 4", "b:"))
	fails(t, p, 2, 1, 1, 1)
	fits(t, p, 2, 1, 1)
	fits(t, p, 1, 2, 1)
	fits(t, p, 1, 1, 2)
	// Together these two move the target to the next multiple.
	fails(t, p, 2, 2, 4, 1)
	fails(t, p, 2, 4, 2, 1)
	counts(t, p, 27-3)
	noLeast(t, p)
	agrees(t, p)
}

// The forms that relax chooses fit, but with aligns they need not be the least.
func TestAlignBetween(t *testing.T) {
	t.Parallel()
	// Both grow at once, though one would have done.
	p := linked(lines("jmp far", "jmp b", fill(126), "align 4", "b:", "section data", "space 1000", "far:"))
	chosen, _, _ := relax.Relax(p)
	if !slices.Equal(chosen, []int{2, 2}) {
		t.Errorf("Relax: %v", chosen)
	}
	least(t, p, 2, 1)
	// The align goes to the next multiple.
	fails(t, p, 1, 4, 1)
	agrees(t, p)

	none := 0
	for _, n := range []string{"1", "2", "4", "8", "16", "32", "64", "128", "256"} {
		for bytes := 100; bytes < 132; bytes++ {
			if !agrees(t, linked(lines("c: jmp c", "jmp b", fill(bytes), "align "+n, "jz r1, c", "b: call c"))) {
				none++
			}
		}
	}
	if none == 0 {
		t.Error("all programs have a least choice")
	}
}

func TestPoolsBetween(t *testing.T) {
	// Each literal takes four bytes, once, and a pool one; the loads lie ahead of the jump.
	holdsFrom(t, linked(lines("ldp r1, =1", "ldp r2, =2", "ldp r3, =1", "jmp b", fill(118), "pool", "b:")), 1)
	holdsFrom(t, linked(lines("ldp r1, =1", "ldp r2, =2", "ldp r3, =1", "jmp b", fill(119), "pool", "b:")), 2)
	holdsFrom(t, linked(lines("jmp b", fill(127), "pool", "b: nop")), 1)
	// A jump at a unit's end, ahead of its pool.
	holdsFrom(t, linked("ldp r1, =1\ncall b", fill(122)+"b: nop\nglobal b"), 1)
	holdsFrom(t, linked("ldp r1, =1\ncall b", fill(123)+"b: nop\nglobal b"), 2)
	holdsFrom(t, linked("a: "+fill(117)+"global a\nldp r1, =1", "call a"), 1)
	holdsFrom(t, linked("a: "+fill(118)+"global a\nldp r1, =1", "call a"), 2)
}

func TestAllItemsBetween(t *testing.T) {
	t.Parallel()
	for n := range 140 {
		agrees(t, linked(lines("a: jmp b", "c: lis r1, 3", "zset z1, r1, r2", "add r1, r2", "print r1", "zturn z1", "zadd z1, z2", "zre r1, z2",
			"trap 7", "li r1, a", "ldp r1, =a", "ldp r2, =5", "pool", "align 16", "ret", "jz r1, c", "section data", "byte 1", "word a", "space 50",
			"align 8", "x:", "section text", fill(n), "b: jnz r2, a", "call x")))
	}
}

func TestSeveralUnits(t *testing.T) {
	p := linked(
		lines("jmp b", "nop", "a: call c", "global a"),
		"",
		lines("b: jz r1, a", fill(124), "global b", "section data", "word 1"),
		"section data\nspace 300",
		lines("c: jnz r1, b", "jmp a", "jmp c", "global c", "section data", "x:", "global x"),
	)
	least(t, p, 1, 1, 1, 2, 2, 1)
	agrees(t, p)
	// The forms go to the instructions in their order, whichever unit has the far one.
	for n := range 4 {
		srcs := slices.Repeat([]string{"a: jmp a"}, 4)
		srcs[n] = "a: jmp a\njmp 1000"
		want := same(1, 5)
		want[n+1] = 2
		p := linked(srcs...)
		fails(t, p, n+1, same(1, 5)...)
		least(t, p, want...)
		counts(t, p, 81*2)
	}
	// Labels of one name in several units.
	agrees(t, linked("a: jmp a\n"+fill(120), "jmp a\nglobal a\n"+fill(120)+"a: call a", "a: jz r1, a\nb: jmp b\n"+fill(5)))
}

// Targets of labels in several stretches, with coefficients, each of which a form may move.
func TestTargetsOfManyLabels(t *testing.T) {
	p := linked(
		lines("a: jmp 3*a-2*b+c+x-y", "b: jz r1, 40*(b-a)-40*(d-c)+e", "c: call 100*(d-c)-150+g", "d:", fill(50), "e: jmp x-100", "section data", "x: space 60", "align 32", "y:", "global a"),
		lines("nop", "align 16", "g: jnz r3, g+a-h", fill(100), "h:", "global g"),
	)
	agrees(t, p)
}

// Programs of each kind.

func TestAllShortPrograms(t *testing.T) {
	t.Parallel()
	pieces := [][]api.Item{
		{jump(named("a", 0))}, {kinds()[2].item(named("b", 0))}, {jump(named("b", 68))}, filler(58), filler(123), {{Kind: api.Align, N: 64}},
	}
	const most = 4
	none := 0
	for n := range 6 * 6 * 6 * 6 {
		for _, spots := range [][2]int{{0, 4}, {4, 0}, {1, 3}} {
			var u api.Unit
			left := n
			for i := range most + 1 {
				for k, spot := range spots {
					if spot == i {
						u.Text = append(u.Text, label([]string{"a", "b"}[k]))
					}
				}
				if i < most {
					u.Text = append(u.Text, pieces[left%6]...)
					left /= 6
				}
			}
			if !agrees(t, program(u)) {
				none++
			}
		}
	}
	if none == 0 {
		t.Error("all programs have a least choice")
	}
}

func TestDrawnPrograms(t *testing.T) {
	t.Parallel()
	d := drawer{Rand: rand.New(rand.NewSource(16))}
	none := 0
	for range 1000 {
		if !agrees(t, d.program(4)) {
			none++
		}
	}
	if none < 10 {
		t.Errorf("%d programs have no least choice", none)
	}
	for range 20 {
		agrees(t, d.program(6))
	}
}

// P16.6: of direct programs Least is what Relax chooses.
func TestDirectPrograms(t *testing.T) {
	t.Parallel()
	d := drawer{Rand: rand.New(rand.NewSource(5))}
	grown := 0
	for n := range 4000 {
		p := d.direct(8)
		chosen, rounds, _ := relax.Relax(p)
		// Those in which rounds hang on rounds are few, so that the others are left out after a while.
		if n >= 300 && rounds <= 2 {
			continue
		}
		least(t, p, chosen...)
		fits(t, p, chosen...)
		if t.Failed() {
			t.Fatalf("the Texts are %s", texts(p))
		}
		if rounds > 2 {
			grown++
		}
	}
	if grown < 100 {
		t.Errorf("%d programs have more than two rounds", grown)
	}
	for range 300 {
		if !agrees(t, d.direct(4)) {
			t.Error("no choice is the least")
		}
	}
}

func TestDirectChains(t *testing.T) {
	// Chains, in which each one that grows makes the next one grow.
	for n := range 8 {
		ahead, behind := "", "l0: jmp z\n"
		for i := range n {
			ahead += lines("jmp "+numbered("l", i+1), numbered("l", i)+":", fill(125))
			behind += fill(124) + numbered("l", i+1) + ": jmp " + numbered("l", i) + "\n"
		}
		ahead += lines("jmp z", numbered("l", n)+":\n")
		for _, src := range []string{ahead, behind} {
			p := linked(src+fill(40), fill(95)+"z: halt\nglobal z")
			chosen, rounds, _ := relax.Relax(p)
			if !slices.Equal(chosen, same(2, n+1)) || rounds != n+2 {
				t.Fatalf("%v in %d rounds", chosen, rounds)
			}
			least(t, p, chosen...)
			// None may be shorter, as all others would have to be.
			counts(t, p, 1<<(n+1))
		}
	}
}

// W3: what Relax chooses fits, whatever the program, of however many span instructions.
func TestWhatRelaxChoosesFits(t *testing.T) {
	d := drawer{Rand: rand.New(rand.NewSource(3))}
	for range 1000 {
		p := d.program(100)
		chosen, rounds, _ := relax.Relax(p)
		fits(t, p, chosen...)
		if short := same(1, p.Spans()); rounds > 1 {
			fails(t, p, firstOf(p, places(p), short), short...)
		}
		fits(t, p, same(4, p.Spans())...)
	}
}

// Whether an image of these bytes may be is not asked.
func TestWhatJudgeRefuses(t *testing.T) {
	for _, c := range []struct {
		p   *link.Program
		why api.Errno
	}{
		{linked("a: jmp a\nsection data\nspace 1000000\nspace 1000000"), api.ErrImage},
		{linked("a: jmp a\nldp r1, =5\n" + fill(5000)), api.ErrReach},
	} {
		l, _ := layout.Of(c.p, []int{1})
		if why := layout.Judge(c.p, l); why != c.why {
			t.Fatalf("Judge: %v", why)
		}
		holdsFrom(t, c.p, 1)
	}
}
