package relax_test

import (
	"math"
	"math/rand"
	"slices"
	"strconv"
	"testing"

	"spandrel/api"
	"spandrel/relax"
)

// The chapter's runs and examples.

func TestRuns(t *testing.T) {
	goes(t, linked("a: jmp a"), []int{1})
	goes(t, linked(lines("jmp b", fill(130), "b: halt")), []int{1}, []int{2})
	goes(t, linked("nop"), nil)
}

func TestExamples(t *testing.T) {
	// 127 nops between: form 1.
	goes(t, linked(lines("jmp b", fill(127), "b: halt")), []int{1})
	goes(t, linked(lines("jmp b", fill(128), "b: halt")), []int{1}, []int{2})

	// jmp 0 at the address 126: its displacement is -128 by form 1.
	goes(t, linked(fill(126)+"jmp 0"), []int{1})
	goes(t, linked(fill(127)+"jmp 0"), []int{1}, []int{2})

	// Two jumps over one another may both grow.
	over := func(n int) string { return lines("a: jmp b", fill(n), "jmp a", "b: halt") }
	goes(t, linked(over(124)), []int{1, 1})
	goes(t, linked(over(125)), []int{1, 1}, []int{1, 2}, []int{2, 2})
	goes(t, linked(over(126)), []int{1, 1}, []int{2, 2})
}

func TestNilProgram(t *testing.T) {
	if forms, rounds, why := relax.Relax(nil); len(forms) != 0 || rounds != 0 || why != api.ErrArg {
		t.Errorf("%v, %d, %v", forms, rounds, why)
	}
	all := relax.Rounds(nil)
	if all == nil {
		t.Fatal("nothing to range over")
	}
	for range 2 {
		for l := range all {
			t.Errorf("%v", l)
		}
	}
}

func TestNoSpanInstructions(t *testing.T) {
	for _, srcs := range [][]string{
		{""}, {"", "", ""}, {"a:"}, {"pool"}, {"align 256"}, {"ret\njr r1\nhalt"}, {"section data\nspace 1000000\nword 1"},
		{"a: ldp r1, =a\nli r2, a\nnop", "section data\nbyte 1", "b: ldp r1, =b"}, {fill(3000)},
	} {
		goes(t, linked(srcs...), nil)
	}
	goes(t, program(api.Unit{}), nil)
}

// What each form holds.

// leastOf answers the form of a displacement that does not hang on forms.
func leastOf(n int) int {
	switch {
	case n >= -128 && n <= 127:
		return 1
	case n >= -32768 && n <= 32767:
		return 2
	}
	return 4
}

func TestEachDisplacement(t *testing.T) {
	var all []int
	for _, n := range []int{0, 127, -128, 255, -256, 32767, -32768, 65535, -65536, 1 << 24, math.MaxInt32 - 3, math.MinInt32 + 3} {
		for i := range 7 {
			all = append(all, n-3+i)
		}
	}
	for _, k := range kinds() {
		for _, n := range all {
			u := api.Unit{Text: []api.Item{k.item("0"), label("b")}}
			u.Text[0].E = named("b", n)
			want := [][]int{{1}}
			if form := leastOf(n); form != 1 {
				want = append(want, []int{form})
			}
			goes(t, program(u), want...)
		}
	}
}

// A target ahead, with bytes between: the displacement is as many, by whatever form.
func TestForwards(t *testing.T) {
	for _, k := range kinds() {
		for _, n := range []int{0, 1, 63, 126, 127, 128, 129, 254, 255, 256, 32766, 32767, 32768, 32769} {
			u := api.Unit{Text: slices.Concat([]api.Item{k.item("0")}, filler(n), []api.Item{label("b")})}
			u.Text[0].E = named("b", 0)
			want := [][]int{{1}}
			if form := leastOf(n); form != 1 {
				want = append(want, []int{form})
			}
			goes(t, program(u), want...)
		}
	}
}

// A target behind: the instruction's own bytes lie between, which grow with it.
func TestBackwards(t *testing.T) {
	for _, k := range kinds() {
		for _, c := range []struct {
			// By form 1.
			displacement int
			rounds       [][]int
		}{
			{-127, [][]int{{1}}},
			{-128, [][]int{{1}}},
			{-129, [][]int{{1}, {2}}},
			{-130, [][]int{{1}, {2}}},
			{-256, [][]int{{1}, {2}}},
			{-257, [][]int{{1}, {2}}},
			{-32766, [][]int{{1}, {2}}},
			{-32767, [][]int{{1}, {2}}},
			// It fits two bytes, but no more with two bytes.
			{-32768, [][]int{{1}, {2}, {4}}},
			{-32769, [][]int{{1}, {4}}},
			{-32770, [][]int{{1}, {4}}},
		} {
			bytes := -c.displacement - k.bytes - 1
			u := api.Unit{Text: slices.Concat([]api.Item{label("a")}, filler(bytes), []api.Item{k.item("0")})}
			u.Text[len(u.Text)-1].E = named("a", 0)
			goes(t, program(u), c.rounds...)
		}
	}
}

func TestTargetsInData(t *testing.T) {
	goes(t, linked("jmp d\nsection data\nd:"), []int{1})
	// Data begin at 16, so that the displacement is 14 and the bytes ahead of d.
	goes(t, linked("jmp d\nsection data\nspace 113\nd:"), []int{1})
	goes(t, linked("jmp d\nsection data\nspace 114\nd:"), []int{1}, []int{2})
	goes(t, linked("jmp d\nsection data\nspace 32753\nd:"), []int{1}, []int{2})
	goes(t, linked("jmp d\nsection data\nspace 32754\nd:"), []int{1}, []int{4})
	goes(t, linked("jz r1, d\nsection data\nspace 40000\nd:"), []int{1}, []int{4})
	// The first one grows, so that the code no more ends at 16 and the data begin at 32.
	goes(t, linked(lines("jmp far", "jmp near", fill(12), "section data", "space 115", "near: space 1000", "far:")), []int{1, 1}, []int{2, 1}, []int{2, 2})
}

func TestAbsoluteTargets(t *testing.T) {
	for _, c := range []struct {
		target string
		rounds [][]int
	}{
		{"0", [][]int{{1}}}, {"2", [][]int{{1}}}, {"129", [][]int{{1}}},
		{"130", [][]int{{1}, {2}}}, {"32769", [][]int{{1}, {2}}},
		// One byte more, and the displacement is less by one: it was 32768 by form 1.
		{"32770", [][]int{{1}, {4}}},
		{"-1", [][]int{{1}}}, {"0xffffffff", [][]int{{1}}}, {"-126", [][]int{{1}}},
		{"-127", [][]int{{1}, {2}}}, {"-32765", [][]int{{1}, {2}}},
		{"-32766", [][]int{{1}, {2}, {4}}}, {"-32767", [][]int{{1}, {4}}},
		{"0x7fffffff", [][]int{{1}, {4}}}, {"0x80000000", [][]int{{1}, {4}}}, {"0x80000001", [][]int{{1}, {4}}}, {"0x80000002", [][]int{{1}, {4}}},
	} {
		goes(t, linked("jmp "+c.target), c.rounds...)
	}
	goes(t, linked("equ e, 200\nequ f, e-150\njmp e\njnz r1, f"), []int{1, 1}, []int{2, 1})
}

// A form that has grown stays, even where its displacement comes to fit a shorter one.
func TestTargetThatComesNearer(t *testing.T) {
	// The displacement is 128 by form 1, and 127 by form 2.
	goes(t, linked("jmp 130"), []int{1}, []int{2})
	// 32768 by form 1, 32765 by form 4.
	goes(t, linked("jmp 32770"), []int{1}, []int{4})
	// -129 by forms of 1; as the second one has grown, -127.
	goes(t, linked(lines("jmp b+2*(c-b)-133", "b: jmp far", "c:", farther)), []int{1, 1}, []int{2, 2})
}

// All at once: what a round changes counts in the next one.

func TestAllAtOnce(t *testing.T) {
	// The second one lies over the first one, which grows.
	goes(t, linked(lines("b: jmp far", fill(124), "jmp b", farther)), []int{1, 1}, []int{2, 1}, []int{2, 2})
	// The first one lies over the second one, which grows.
	goes(t, linked(lines("jmp b", fill(125), "jmp far", "b:", farther)), []int{1, 1}, []int{1, 2}, []int{2, 2})
	// In the first round the first one fits two bytes, in the second no more.
	p := program(api.Unit{
		Text: slices.Concat([]api.Item{jump(named("b", 0))}, filler(32765), []api.Item{jump(named("b", 200)), label("b")}),
	})
	goes(t, p, []int{1, 1}, []int{2, 2}, []int{4, 2})
	// The last one lies over the second one, which lies over the last one, and the first one over the second one.
	goes(t, linked(lines("jmp c", fill(63), "b: jmp d", fill(62), "c:", fill(63), "call b", "d:")),
		[]int{1, 1, 1}, []int{1, 1, 2}, []int{1, 2, 2}, []int{2, 2, 2})
}

func TestChainTowardsTheFirst(t *testing.T) {
	for n := range 12 {
		// Each lies over the next one, behind which its target is, and none but the last has to grow at first.
		src := ""
		for i := range n {
			src += lines("jmp l"+strconv.Itoa(i+1), "l"+strconv.Itoa(i)+":", fill(125))
		}
		src += lines("jmp far", "l"+strconv.Itoa(n)+":\n")
		want := [][]int{slices.Repeat([]int{1}, n+1)}
		for i := n; i >= 0; i-- {
			next := slices.Clone(want[len(want)-1])
			next[i] = 2
			want = append(want, next)
		}
		goes(t, linked(src+"section data\nspace 5000\nfar:"), want...)
	}
}

func TestChainTowardsTheLast(t *testing.T) {
	for n := range 12 {
		src := "l0: jmp far\n"
		for i := range n {
			src += fill(124) + "l" + strconv.Itoa(i+1) + ": jmp l" + strconv.Itoa(i) + "\n"
		}
		want := [][]int{slices.Repeat([]int{1}, n+1)}
		for i := range n + 1 {
			next := slices.Clone(want[len(want)-1])
			next[i] = 2
			want = append(want, next)
		}
		goes(t, linked(src+"section data\nspace 5000\nfar:"), want...)
	}
}

// slowest answers a source of n jumps that takes as many rounds as there may be: each jump grows once the one ahead of it has
// four bytes, to two at first, and, as it then has two, to four.
func slowest(n int) string {
	src := ""
	for i := range n {
		a, b := "a"+strconv.Itoa(i), "b"+strconv.Itoa(i)
		begin := "200"
		if i > 0 {
			begin = "100*(b" + strconv.Itoa(i-1) + "-a" + strconv.Itoa(i-1) + "-2)"
		}
		src += lines(a+": jmp "+b+"+40000*("+b+"-"+a+"-2)+"+begin, b+":\n")
	}
	return src
}

func TestSlowest(t *testing.T) {
	for n := range 20 {
		want := [][]int{slices.Repeat([]int{1}, n)}
		for i := range n {
			for _, form := range []int{2, 4} {
				next := slices.Clone(want[len(want)-1])
				next[i] = form
				want = append(want, next)
			}
		}
		if len(want) != 2*n+1 {
			t.Fatalf("%d rounds", len(want))
		}
		goes(t, linked(slowest(n)), want...)
	}
}

// Aligns, pools and all other items between.

func TestAlignBetween(t *testing.T) {
	// The target rises by far more than the jump ahead grows.
	goes(t, linked(lines("jmp far", "jmp b", fill(124), "align 128", "b:", farther)), []int{1, 1}, []int{2, 1}, []int{2, 2})
	// Both grow; the target stays, so that the displacement falls from 128 to 126, and the form remains.
	goes(t, linked(lines("jmp far", "jmp b", fill(125), "align 4", "b:", farther)), []int{1, 1}, []int{2, 2})
	// The target stays: what is between becomes less.
	goes(t, linked(lines("jmp far", "jmp b", fill(124), "align 4", "b:", farther)), []int{1, 1}, []int{2, 1})
	// A target behind: the align takes up what the first one grows, or adds to it.
	goes(t, linked(lines("b: jmp far", fill(99), "align 4", fill(22), "jmp b", farther)), []int{1, 1}, []int{2, 1})
	goes(t, linked(lines("b: jmp far", fill(98), "align 4", fill(26), "jmp b", farther)), []int{1, 1}, []int{2, 1}, []int{2, 2})
}

func TestAlignThatEachGrowthMoves(t *testing.T) {
	for _, n := range []string{"2", "4", "8", "16", "32", "64", "128", "256"} {
		for bytes := range 140 {
			agrees(t, linked(lines("c: jmp far", "jmp b", fill(bytes), "align "+n, "jz r1, c", "b: call c", farther)))
		}
	}
}

func TestPoolsBetween(t *testing.T) {
	// Each literal takes four bytes, once, and a pool one; the loads lie ahead of the jump.
	goes(t, linked(lines("ldp r1, =1", "ldp r2, =2", "ldp r3, =1", "jmp b", fill(118), "pool", "b:")), []int{1})
	goes(t, linked(lines("ldp r1, =1", "ldp r2, =2", "ldp r3, =1", "jmp b", fill(119), "pool", "b:")), []int{1}, []int{2})
	goes(t, linked(lines("ldp r1, =1", "jmp b", fill(127), "pool", "pool", "b: nop")), []int{1}, []int{2})
	goes(t, linked(lines("jmp b", fill(127), "pool", "b: nop")), []int{1})
	// A jump at a unit's end, ahead of its pool.
	goes(t, linked("ldp r1, =1\ncall b", fill(122)+"b: nop\nglobal b"), []int{1})
	goes(t, linked("ldp r1, =1\ncall b", fill(123)+"b: nop\nglobal b"), []int{1}, []int{2})
	goes(t, linked("a: "+fill(118)+"global a\nldp r1, =1", "call a"), []int{1}, []int{2})
	goes(t, linked("a: "+fill(117)+"global a\nldp r1, =1", "call a"), []int{1})
}

func TestAllItemsBetween(t *testing.T) {
	// Ahead of what fills there are 52 bytes.
	between := func(n int) string {
		return lines("a: jmp b", "c: lis r1, 3", "zset z1, r1, r2", "add r1, r2", "print r1", "zturn z1", "zadd z1, z2", "zre r1, z2",
			"trap 7", "li r1, a", "ldp r1, =a", "ldp r2, =5", "pool", "align 16", "ret", "jz r1, c", "section data", "byte 1", "word a", "space 500",
			"align 8", "x:", "section text", fill(n), "b: jnz r2, a", "call x")
	}
	goes(t, linked(between(73)), []int{1, 1, 1, 1}, []int{1, 1, 1, 2})
	goes(t, linked(between(74)), []int{1, 1, 1, 1}, []int{1, 1, 2, 2})
	goes(t, linked(between(77)), []int{1, 1, 1, 1}, []int{1, 1, 2, 2})
	goes(t, linked(between(78)), []int{1, 1, 1, 1}, []int{2, 1, 2, 2})
	for n := range 140 {
		agrees(t, linked(between(n)))
	}
}

func TestSeveralUnits(t *testing.T) {
	goes(t, linked(
		lines("jmp b", "nop", "a: call c", "global a"),
		"",
		lines("b: jz r1, a", fill(124), "global b", "jmp x", "section data", "word 1"),
		"section data\nspace 300",
		lines("c: jnz r1, b", "jmp a", "jmp c", "global c", "section data", "x:", "global x"),
	),
		[]int{1, 1, 1, 1, 1, 1, 1},
		[]int{1, 2, 1, 2, 2, 2, 1},
	)
	// The forms go to the instructions in their order, whichever unit grows.
	for n := range 5 {
		srcs := slices.Repeat([]string{"a: jmp a"}, 5)
		srcs[n] = "a: jmp a\njmp 1000"
		want := slices.Repeat([]int{1}, 6)
		want[n+1] = 2
		goes(t, linked(srcs...), slices.Repeat([]int{1}, 6), want)
	}
}

// Programs of each kind.

func TestAllShortPrograms(t *testing.T) {
	pieces := [][]api.Item{
		{jump(named("a", 0))}, {kinds()[2].item("b")}, {jump(named("b", 126))}, filler(62), filler(124),
		{{Kind: api.Align, N: 64}}, {{Kind: api.Code, Inst: api.Inst{Op: 39}}}, {{Kind: api.Pool}},
	}
	const most = 4
	for n := range 8 * 8 * 8 * 8 {
		for _, spots := range [][2]int{{0, 4}, {4, 0}, {0, 2}, {1, 3}, {2, 4}} {
			var u api.Unit
			left := n
			for i := range most + 1 {
				for k, spot := range spots {
					if spot == i {
						u.Text = append(u.Text, label([]string{"a", "b"}[k]))
					}
				}
				if i < most {
					u.Text = append(u.Text, pieces[left%8]...)
					left /= 8
				}
			}
			agrees(t, program(u))
		}
	}
}

func TestDrawnPrograms(t *testing.T) {
	d := drawer{rand.New(rand.NewSource(15))}
	long := 0
	for range 3000 {
		p := d.program()
		agrees(t, p)
		if _, rounds, _ := relax.Relax(p); rounds > 2 {
			long++
		}
	}
	// There must be some in which rounds hang on rounds.
	if long < 100 {
		t.Errorf("%d programs have more than two rounds", long)
	}
}

// P15.2: rounds are ranged over again, and left early.

func TestRoundsAgain(t *testing.T) {
	p := linked(slowest(5))
	all := relax.Rounds(p)
	want := tell(p)
	for range 3 {
		var got [][]int
		for l := range all {
			got = append(got, slices.Clone(l))
			for i := range l {
				l[i] = 99
			}
		}
		if !sameRounds(got, want) {
			t.Errorf("%v, not %v", got, want)
		}
	}
	relaxes(t, p, 11, 4, 4, 4, 4, 4)
}

func TestRoundsLeftEarly(t *testing.T) {
	p := linked(slowest(5))
	all := relax.Rounds(p)
	want := tell(p)
	for most := 1; most <= len(want); most++ {
		var got [][]int
		for l := range all {
			got = append(got, slices.Clone(l))
			for i := range l {
				l[i] = 4
			}
			if len(got) == most {
				break
			}
		}
		if !sameRounds(got, want[:most]) {
			t.Errorf("left at %d: %v, not %v", most, got, want[:most])
		}
	}
	// Who is left is called no more.
	calls := 0
	all(func([]int) bool {
		calls++
		return calls < 3
	})
	if calls != 3 {
		t.Errorf("%d calls", calls)
	}
	// Of no span instructions there is one round, which may be left, too.
	for l := range relax.Rounds(linked("nop")) {
		if len(l) != 0 {
			t.Errorf("%v", l)
		}
		break
	}
}

// One ranging within another.
func TestRoundsWithinRounds(t *testing.T) {
	p := linked(slowest(4))
	all := relax.Rounds(p)
	want := tell(p)
	n := 0
	for l := range all {
		if !slices.Equal(l, want[n]) {
			t.Errorf("%v, not %v", l, want[n])
		}
		n++
		m := 0
		for l := range all {
			if !slices.Equal(l, want[m]) {
				t.Errorf("%v, not %v", l, want[m])
			}
			m++
			clear(l)
		}
		if m != len(want) {
			t.Errorf("%d rounds", m)
		}
	}
	if n != len(want) {
		t.Errorf("%d rounds", n)
	}
}
