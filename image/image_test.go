package image_test

import (
	"bytes"
	"math"
	"math/rand"
	"slices"
	"strconv"
	"strings"
	"testing"

	"spandrel/api"
	"spandrel/image"
	"spandrel/isa"
	"spandrel/link"
	"spandrel/relax"
)

// The chapter's runs and examples.

func TestRuns(t *testing.T) {
	builds(t, linked("a: jmp a"), "40 fe 00x14", "")
	builds(t, linked("ldp r1, =5\nhalt"), "33 01 02 00 01 ff 05 00 00 00", "")
	refused(t, linked(lines("jmp b", nops(130), "b: halt")), api.ErrForm, 1)

	p := linked("section data\nword 258\nbyte -1")
	builds(t, p, "", "02 01 00 00 ff")
	if l := build(t, p).Layout(); l.Code != 0 || l.Start != 0 || l.Size != 5 {
		t.Errorf("%+v", l)
	}
}

func TestExamples(t *testing.T) {
	// Where(1) of the first run: false.
	m := build(t, linked("a: jmp a"))
	nothingAt(t, m, 1)
	liesAt(t, m, 0, image.Place{Item: 1})

	// An empty unit: no bytes.
	if b := build(t, linked("")).Bytes(); len(b) != 0 {
		t.Errorf("% x", b)
	}

	// 5000 bytes of Text between a load and its pool: ErrReach.
	far := linked(lines("ldp r1, =5", fill(5000), "pool"))
	unbuilt(t, far, api.ErrReach)
	refused(t, far, api.ErrReach)
}

// P17.1: what is refused, and in which order.

func TestNilProgram(t *testing.T) {
	unbuilt(t, nil, api.ErrArg)
	for _, forms := range [][]int{nil, {}, {1}, {3}, {1, 2, 4}} {
		refused(t, nil, api.ErrArg, forms...)
	}
	// Of no units there is no program.
	p, _ := link.Link()
	unbuilt(t, p, api.ErrArg)
	refused(t, p, api.ErrArg)
}

func TestWrongForms(t *testing.T) {
	none := linked("nop\nsection data\nbyte 1")
	three := linked("a: jmp a", "call a\nldp r1, =1\nglobal a\na: jz r1, a")
	for _, forms := range [][]int{nil, {}, {1}, {4, 4}, {1, 1, 1, 1}, {4, 4, 4, 4, 4, 4}} {
		refused(t, three, api.ErrArg, forms...)
	}
	for _, form := range []int{0, 3, -1, -2, -4, 5, 6, 8, 16, 1 << 8, 1<<8 + 1, 1<<16 + 2, 1<<32 + 1, 1<<32 + 4, math.MaxInt, math.MinInt} {
		for n := range 3 {
			forms := same(4, 3)
			forms[n] = form
			refused(t, three, api.ErrArg, forms...)
		}
		refused(t, none, api.ErrArg, form)
	}
	for _, form := range []int{1, 2, 4} {
		refused(t, none, api.ErrArg, form)
	}
	for _, forms := range allForms(3) {
		if !agrees(t, three, forms) {
			t.Errorf("none by %v", forms)
		}
	}
	agrees(t, none, nil)
	agrees(t, none, []int{})
}

// Room behind the forms is none of them.
func TestRoomBehindForms(t *testing.T) {
	p := linked("a: jmp a\njmp 1000")
	room := []int{1, 2, 1, 1}
	refused(t, p, api.ErrArg, room[:1]...)
	refused(t, p, api.ErrArg, room[:3]...)
	is(t, p, room[:2], "40 fe 41 e3 03", "")
}

func TestWhyThereIsNone(t *testing.T) {
	// 4095 bytes from the load to its literal, if nothing follows.
	near := "ldp r1, =5\n" + fill(4094)
	far := near + "nop\n"
	large := "section data\nspace 1048576"
	for _, c := range []struct {
		srcs  []string
		forms []int
		want  api.Errno
	}{
		// Each alone.
		{[]string{"jmp 1000"}, nil, api.ErrArg},
		{[]string{"jmp 1000"}, []int{1}, api.ErrForm},
		{[]string{"jmp 1000\n" + far}, []int{2}, api.ErrReach},
		{[]string{"jmp 1000\n" + large}, []int{2}, api.ErrImage},
		{[]string{"jmp 1000\n" + near}, []int{2}, api.OK},
		// Of two or more the first.
		{[]string{"jmp 1000\njmp 1000"}, []int{1}, api.ErrArg},
		{[]string{"jmp 1000\njmp 1000"}, []int{1, 3}, api.ErrArg},
		{[]string{"jmp 1000\njmp 1000"}, []int{1, 1, 1}, api.ErrArg},
		{[]string{"jmp 1000\n" + far}, nil, api.ErrArg},
		{[]string{"jmp 1000\n" + far}, []int{0}, api.ErrArg},
		{[]string{"jmp 1000\n" + large}, []int{2, 2}, api.ErrArg},
		{[]string{"jmp 1000\n" + large}, []int{5}, api.ErrArg},
		{[]string{large, far}, []int{4}, api.ErrArg},
		{[]string{"jmp 1000\n" + far}, []int{1}, api.ErrForm},
		{[]string{far + "jmp 10000"}, []int{1}, api.ErrForm},
		{[]string{"jmp 1000\n" + large}, []int{1}, api.ErrForm},
		{[]string{large, "jmp 1000"}, []int{1}, api.ErrForm},
		{[]string{large, far, "jmp 100000"}, []int{2}, api.ErrForm},
		{[]string{large, far, "jmp 100000"}, []int{4}, api.ErrReach},
		{[]string{far, large}, nil, api.ErrReach},
		{[]string{large, far}, nil, api.ErrReach},
		{[]string{large, near}, nil, api.ErrImage},
	} {
		p := linked(c.srcs...)
		if got := why(p, c.forms); got != c.want {
			t.Errorf("%s by %v: %v, not %v", short(c.srcs), c.forms, got, c.want)
		}
		agrees(t, p, c.forms)
		// Build chooses forms that reach.
		forms, _, _ := relax.Relax(p)
		if want := why(p, forms); want != api.OK {
			unbuilt(t, p, want)
			continue
		}
		build(t, p)
	}
}

// The span instruction that does not reach may be any of several, in any unit.
func TestEachThatDoesNotReach(t *testing.T) {
	srcs := []string{"jmp 100\nnop\njz r1, 100", "", "call 100\nldp r1, =3", "jnz r2, 100"}
	for n := range 4 {
		target := []string{"jmp 1", "jz r1, 1", "call 1", "jnz r2, 1"}[n]
		unit := []int{0, 0, 2, 3}[n]
		l := slices.Clone(srcs)
		l[unit] = strings.Replace(l[unit], target, target+"0", 1)
		p := linked(l...)
		refused(t, p, api.ErrForm, 1, 1, 1, 1)
		for form := 2; form <= 4; form += 2 {
			forms := same(1, 4)
			forms[n] = form
			if !agrees(t, p, forms) {
				t.Errorf("none by %v", forms)
			}
			forms[n], forms[(n+1)%4] = 1, 4
			refused(t, p, api.ErrForm, forms...)
		}
	}
}

// Build is With by the forms that Relax chooses.
func TestBuild(t *testing.T) {
	for _, c := range []struct {
		src   string
		forms []int
	}{
		{"a: jmp a", []int{1}},
		{lines("jmp b", nops(127), "b: halt"), []int{1}},
		{lines("jmp b", nops(128), "b: halt"), []int{2}},
		{lines("jmp 70000", "a: call a", "jz r1, 1000"), []int{4, 1, 2}},
		{lines("a: jmp b", nops(124), "jmp a", "b:"), []int{1, 1}},
		{lines("a: jmp b", nops(125), "jmp a", "b:"), []int{2, 2}},
		{"nop", nil},
	} {
		p := linked(c.src)
		m := build(t, p)
		if !slices.Equal(m.Forms(), c.forms) {
			t.Errorf("%v, not %v", m.Forms(), c.forms)
		}
		holds(t, m, p, c.forms)
	}
}

// P17.2 and P17.3: code.

// Each operation, with its registers and its number.
func TestEachOperation(t *testing.T) {
	met := map[int]bool{}
	for _, c := range []struct {
		src, bytes string
		want       api.Inst
	}{
		{"nop", "00", api.Inst{Op: 1}},
		{"halt", "01", api.Inst{Op: 2}},
		{"ret", "02", api.Inst{Op: 3}},
		{"print r1", "03 01", api.Inst{Op: 4, A: 1}},
		{"in r2", "04 02", api.Inst{Op: 5, A: 2}},
		{"push r3", "05 03", api.Inst{Op: 6, A: 3}},
		{"pop r4", "06 04", api.Inst{Op: 7, A: 4}},
		{"jr r5", "07 05", api.Inst{Op: 8, A: 5}},
		{"neg r6", "08 06", api.Inst{Op: 9, A: 6}},
		{"not r7", "09 07", api.Inst{Op: 10, A: 7}},
		{"zturn z1", "0a 01", api.Inst{Op: 11, A: 1}},
		{"zconj z3", "0b 03", api.Inst{Op: 12, A: 3}},
		{"mov r1, r2", "10 12", api.Inst{Op: 13, A: 1, B: 2}},
		{"add r7, r0", "11 70", api.Inst{Op: 14, A: 7}},
		{"sub r0, r7", "12 07", api.Inst{Op: 15, B: 7}},
		{"mul r3, r4", "13 34", api.Inst{Op: 16, A: 3, B: 4}},
		{"div r4, r5", "14 45", api.Inst{Op: 17, A: 4, B: 5}},
		{"and r5, r6", "15 56", api.Inst{Op: 18, A: 5, B: 6}},
		{"or r6, r7", "16 67", api.Inst{Op: 19, A: 6, B: 7}},
		{"xor r1, r1", "17 11", api.Inst{Op: 20, A: 1, B: 1}},
		{"shl r2, r1", "18 21", api.Inst{Op: 21, A: 2, B: 1}},
		{"shr r3, r2", "19 32", api.Inst{Op: 22, A: 3, B: 2}},
		{"lt r4, r3", "1a 43", api.Inst{Op: 23, A: 4, B: 3}},
		{"eq r5, r4", "1b 54", api.Inst{Op: 24, A: 5, B: 4}},
		{"ldb r6, r5", "1c 65", api.Inst{Op: 25, A: 6, B: 5}},
		{"ldw r7, r6", "1d 76", api.Inst{Op: 26, A: 7, B: 6}},
		{"ldm r0, r1", "1e 01", api.Inst{Op: 27, B: 1}},
		{"stm r1, r3", "1f 13", api.Inst{Op: 28, A: 1, B: 3}},
		{"zmov z1, z2", "20 12", api.Inst{Op: 29, A: 1, B: 2}},
		{"zadd z0, z3", "21 03", api.Inst{Op: 30, B: 3}},
		{"zsub z3, z1", "22 31", api.Inst{Op: 31, A: 3, B: 1}},
		{"zmul z2, z2", "23 22", api.Inst{Op: 32, A: 2, B: 2}},
		{"zre r7, z1", "24 71", api.Inst{Op: 33, A: 7, B: 1}},
		{"zim r5, z3", "25 53", api.Inst{Op: 34, A: 5, B: 3}},
		{"zset z1, r2, r3", "26 01 23", api.Inst{Op: 35, A: 1, B: 2, N: 3}},
		{"lis r1, -3", "30 01 fd", api.Inst{Op: 36, A: 1, N: -3}},
		{"lis r7, 127", "30 07 7f", api.Inst{Op: 36, A: 7, N: 127}},
		{"trap 200", "31 c8", api.Inst{Op: 37, N: 200}},
		{"li r3, -2", "32 03 fe ff ff ff", api.Inst{Op: 38, A: 3, N: -2}},
		{"li r3, 0x1020304", "32 03 04 03 02 01", api.Inst{Op: 38, A: 3, N: 0x1020304}},
		{"ldp r6, =0x1020304", "33 06 01 00 ff 04 03 02 01", api.Inst{Op: 39, A: 6, N: 1}},
		{"jmp 0", "40 fe", api.Inst{Op: 40, N: -2, Form: 1}},
		{"call 12", "43 0a", api.Inst{Op: 41, N: 10, Form: 1}},
		{"jz r2, 3", "46 02 00", api.Inst{Op: 42, A: 2, Form: 1}},
		{"jnz r7, -1", "49 07 fc", api.Inst{Op: 43, A: 7, N: -4, Form: 1}},
	} {
		p := linked(c.src)
		builds(t, p, c.bytes, "")
		m := build(t, p)
		becomes(t, m, 0, 0, c.want)
		liesAt(t, m, 0, image.Place{})
		met[c.want.Op] = true
	}
	if len(met) != len(isa.Ops()) {
		t.Errorf("%d operations", len(met))
	}
}

// Each kind of span instruction by each form, forwards and backwards.
func TestSpansByEachForm(t *testing.T) {
	for _, c := range []struct {
		src   string
		form  int
		bytes string
		want  api.Inst
	}{
		{"jmp b", 1, "40 02", api.Inst{Op: 40, N: 2, Form: 1}},
		{"jmp b", 2, "41 02 00", api.Inst{Op: 40, N: 2, Form: 2}},
		{"jmp b", 4, "42 02 00 00 00", api.Inst{Op: 40, N: 2, Form: 4}},
		{"jmp a", 1, "40 fe", api.Inst{Op: 40, N: -2, Form: 1}},
		{"jmp a", 2, "41 fd ff", api.Inst{Op: 40, N: -3, Form: 2}},
		{"jmp a", 4, "42 fb ff ff ff", api.Inst{Op: 40, N: -5, Form: 4}},
		{"call b", 1, "43 02", api.Inst{Op: 41, N: 2, Form: 1}},
		{"call b", 2, "44 02 00", api.Inst{Op: 41, N: 2, Form: 2}},
		{"call a", 4, "45 fb ff ff ff", api.Inst{Op: 41, N: -5, Form: 4}},
		{"jz r3, b", 1, "46 03 02", api.Inst{Op: 42, A: 3, N: 2, Form: 1}},
		{"jz r3, a", 2, "47 03 fc ff", api.Inst{Op: 42, A: 3, N: -4, Form: 2}},
		{"jz r3, b", 4, "48 03 02 00 00 00", api.Inst{Op: 42, A: 3, N: 2, Form: 4}},
		{"jnz r7, a", 1, "49 07 fd", api.Inst{Op: 43, A: 7, N: -3, Form: 1}},
		{"jnz r7, b", 2, "4a 07 02 00", api.Inst{Op: 43, A: 7, N: 2, Form: 2}},
		{"jnz r7, a", 4, "4b 07 fa ff ff ff", api.Inst{Op: 43, A: 7, N: -6, Form: 4}},
	} {
		p := linked(lines("nop", "a: "+c.src, "halt", "halt", "b: ret"))
		is(t, p, []int{c.form}, "00 "+c.bytes+" 01 01 02", "")
		becomes(t, with(t, p, c.form), 0, 2, c.want)
	}
}

// A displacement just at and just beyond what each form holds.
func TestEndsOfForms(t *testing.T) {
	for _, k := range []struct {
		name  string
		bytes int
	}{{"jmp ", 1}, {"call ", 1}, {"jz r3, ", 2}, {"jnz r7, ", 2}} {
		for _, form := range []int{1, 2, 4} {
			for _, n := range []int{0, 127, -128, 255, -256, 32767, -32768, 65535, -65536, 1 << 24, math.MaxInt32 - 2, math.MinInt32 + 2} {
				for i := n - 2; i <= n+2; i++ {
					p := linked(k.name + strconv.Itoa(i+k.bytes+form))
					if got, want := agrees(t, p, []int{form}), reaches(int32(i), form); got != want {
						t.Errorf("%d of %s by %d: %v", i, k.name, form, got)
					}
				}
			}
		}
	}
	over := func(n int) *link.Program {
		return program(api.Unit{Text: slices.Concat([]api.Item{code("jmp", named("b", 0))}, filler(n), []api.Item{label("b"), code("halt", api.Lin{})})})
	}
	back := func(n int) *link.Program {
		return program(api.Unit{Text: slices.Concat([]api.Item{label("b")}, filler(n), []api.Item{code("jmp", named("b", 0))})})
	}
	for _, n := range []int{126, 127, 128, 129} {
		if got := agrees(t, over(n), []int{1}); got != (n <= 127) {
			t.Errorf("%d bytes ahead: %v", n, got)
		}
		if got := agrees(t, back(n), []int{1}); got != (n <= 126) {
			t.Errorf("%d bytes behind: %v", n, got)
		}
	}
	for _, n := range []int{32764, 32765, 32766, 32767, 32768} {
		if got := agrees(t, over(n), []int{2}); got != (n <= 32767) {
			t.Errorf("%d bytes ahead: %v", n, got)
		}
		if got := agrees(t, back(n), []int{2}); got != (n <= 32765) {
			t.Errorf("%d bytes behind: %v", n, got)
		}
	}
	p := linked(lines("b: jmp c", fill(124), "jmp b", "c: halt"))
	is(t, p, []int{1, 1}, "40 7e"+filled(124)+"40 80 01", "")
	is(t, p, []int{1, 2}, "40 7f"+filled(124)+"41 7f ff 01", "")
	is(t, p, []int{2, 4}, "41 81 00"+filled(124)+"42 7c ff ff ff 01", "")
	refused(t, p, api.ErrForm, 2, 1)
	refused(t, p, api.ErrForm, 1, 4)
}

func TestLongerForms(t *testing.T) {
	p := linked(lines("a: jmp b", "ldp r1, =a", "jz r1, a", "pool", "b: call a", "align 4"), lines("ldp r1, =5", "jnz r2, 7", "section data", "c: word c"))
	for _, forms := range allForms(4) {
		if !agrees(t, p, forms) {
			t.Errorf("none by %v", forms)
		}
	}
	is(t, p, []int{4, 1, 2, 4},
		"42 0c 00 00 00  33 01 04 00  46 01 f4  ff 00 00 00 00  44 ec ff  33 01 07 00  4b 02 e9 ff ff ff  ff 05 00 00 00", "30 00 00 00")
}

// Loads and pools.

func TestLoads(t *testing.T) {
	// A pool in the middle and one at the end; in each a literal that two loads share.
	p := linked(lines("a: ldp r1, =1", "ldp r2, =a+2", "ldp r3, =1", "pool", "b: ldp r4, =1", "nop", "ldp r5, =b", "ldp r6, =1", "halt"))
	builds(t, p, "33 01 09 00 33 02 09 00 33 03 01 00 ff 01 00 00 00 02 00 00 00"+
		" 33 04 0b 00 00 33 05 0a 00 33 06 02 00 01 ff 01 00 00 00 15 00 00 00", "")
	m := build(t, p)
	for item, want := range map[int]api.Inst{
		1: {Op: 39, A: 1, N: 9}, 2: {Op: 39, A: 2, N: 9}, 3: {Op: 39, A: 3, N: 1}, 6: {Op: 39, A: 4, N: 11}, 8: {Op: 39, A: 5, N: 10}, 9: {Op: 39, A: 6, N: 2},
	} {
		becomes(t, m, 0, item, want)
	}
	// Literals of one value that are not one Lin, which lie each for itself.
	builds(t, linked("ldp r1, =a+1\na: ldp r2, =5\nldp r3, =a+1\nldp r4, =b-3\nb:"),
		"33 01 0d 00 33 02 0d 00 33 03 05 00 33 04 09 00 ff 05 00 00 00 05 00 00 00 0d 00 00 00", "")
	// An item Pool without a pool, ahead of loads, behind another one and at the end.
	builds(t, linked("pool\nldp r1, =1\npool\npool\nhalt\npool"), "33 01 01 00 ff 01 00 00 00 01", "")
	// A pool for each unit; a unit without; one of a load alone.
	builds(t, linked("ldp r1, =1\nret", "halt", "", "ldp r1, =1"), "33 01 02 00 02 ff 01 00 00 00 01 33 01 01 00 ff 01 00 00 00", "")
	// Jumps between a load and its pool count with their forms.
	p = linked("ldp r1, =-5\njmp 0\njz r1, 0")
	is(t, p, []int{1, 1}, "33 01 06 00 40 fa 46 01 f7 ff fb ff ff ff", "")
	is(t, p, []int{4, 2}, "33 01 0a 00 42 f7 ff ff ff 47 01 f3 ff ff fb ff ff ff", "")
	// Aligns between a load and its pool, and behind the pool.
	builds(t, linked("nop\nldp r1, =9\nalign 8\npool\nalign 16\nhalt"), "00 33 01 04 00 00 00 00 ff 09 00 00 00 00 00 00 01", "")
	builds(t, linked("ldp r1, =9\nalign 8"), "33 01 05 00 00 00 00 00 ff 09 00 00 00", "")
}

// A load 4095 bytes ahead of its literal, and one 4096.
func TestFarLoads(t *testing.T) {
	load := func(n int) *link.Program { return linked(lines("ldp r1, =0x1020304", fill(n))) }
	m := build(t, load(4094))
	becomes(t, m, 0, 0, api.Inst{Op: 39, A: 1, N: 4095})
	if b := m.Bytes(); !bytes.Equal(b[:4], octets("33 01 ff 0f")) || !bytes.Equal(b[4098:4104], octets("ff 04 03 02 01 00")) {
		t.Errorf("% x .. % x", b[:4], b[4098:4104])
	}
	unbuilt(t, load(4095), api.ErrReach)
	for n := 4090; n < 4100; n++ {
		if got := agrees(t, load(n), nil); got != (n <= 4094) {
			t.Errorf("%d bytes: %v", n, got)
		}
	}
	// The form alone makes it too far.
	p := linked(lines("ldp r1, =5", "jmp 0", fill(4091)))
	becomes(t, with(t, p, 2), 0, 0, api.Inst{Op: 39, A: 1, N: 4095})
	refused(t, p, api.ErrReach, 4)
	// In another unit, and another pool.
	unbuilt(t, linked("ldp r1, =5", lines("ldp r1, =5", "pool", "ldp r2, =6", fill(4095))), api.ErrReach)
	build(t, linked("ldp r1, =5", lines("ldp r1, =5", "pool", "ldp r2, =6", fill(4094))))
}

// Aligns, and what lies between the code and the data.

func TestAligns(t *testing.T) {
	for n := 1; n <= 256; n *= 2 {
		size := strconv.Itoa(n)
		for _, ahead := range []int{0, 1, n - 1, n, n + 1, 2*n - 1, 3 * n} {
			noughts := (n - ahead%n) % n
			// halt is 01, so that what an align takes can be told from code.
			halts := strings.Repeat("halt\n", ahead)
			p := linked(halts + lines("align "+size, "a: ret"))
			builds(t, p, strings.Repeat("01 ", ahead)+"00x"+strconv.Itoa(noughts)+" 02", "")
			m := build(t, p)
			liesAt(t, m, ahead+noughts, image.Place{Item: ahead + 2})
			if noughts > 0 {
				nothingAt(t, m, ahead)
			}
			// Data begin at 0 here.
			bytes := "section data\n" + strings.Repeat("byte 1\n", ahead)
			builds(t, linked(bytes+lines("align "+size, "byte 2")), "", strings.Repeat("01 ", ahead)+"00x"+strconv.Itoa(noughts)+" 02")
		}
	}
	// An align that takes no byte, between two Codes, at the beginning and at the end, in both sections.
	builds(t, linked("align 256\nprint r1\nalign 2\nhalt\nhalt\nalign 4\nsection data\nalign 8\nbyte 1\nalign 1\nbyte 2\nalign 2"), "03 01 01 01", "01 02")
	// Aligns at the ends of units.
	builds(t, linked("halt\nalign 4\nsection data\nbyte 1\nalign 2", "halt\nsection data\nalign 4\nbyte 2", "align 8\nhalt"), "01 00 00 00 01 00 00 00 01", "01 00 00 00 02")
}

// Code of each length, a multiple of 16 and one byte beyond among them.
func TestBetweenCodeAndStart(t *testing.T) {
	for n := range 70 {
		p := linked(strings.Repeat("halt\n", n) + "section data\nbyte 7")
		builds(t, p, strings.Repeat("01 ", n), "07")
		m := build(t, p)
		start := (n + 15) / 16 * 16
		if l := m.Layout(); l.Code != n || l.Start != start || l.Size != start+1 || len(m.Bytes()) != start+1 {
			t.Errorf("%d bytes of code: %+v", n, l)
		}
		for at := n; at < start+2; at++ {
			nothingAt(t, m, at)
		}
	}
}

// Data.

func TestData(t *testing.T) {
	builds(t, linked("section data\nbyte 0, 1, 127, 128, 255, -1, -2, -128"), "", "00 01 7f 80 ff ff fe 80")
	builds(t, linked("section data\nword 0, 1, 0x1020304, -1, 0x80000000, 0x7fffffff, 4294967295"), "",
		"00 00 00 00 01 00 00 00 04 03 02 01 ff ff ff ff 00 00 00 80 ff ff ff 7f ff ff ff ff")
	builds(t, linked("section data\nbyte 1\nspace 3\nbyte 2\nspace 0\nbyte 3\nspace 1"), "", "01 00 00 00 02 03 00")
	// Words lie where they lie: no align comes by itself.
	builds(t, linked("section data\nbyte 1\nword 2\nbyte 3\nalign 4\nword 4"), "", "01 02 00 00 00 03 00 00 04 00 00 00")
	// Several units, one behind the other, with code ahead.
	builds(t, linked("halt\nsection data\nbyte 1", "section data\nword 2", "halt", "section data\nspace 2\nbyte -1"), "01 01", "01 02 00 00 00 00 00 ff")
}

// Numbers of expressions: of labels of the code and of the data, of this unit and of others, below 0 and above 2^31.
func TestExpressions(t *testing.T) {
	p := linked(
		lines("a: li r1, d", "li r2, f-a", "li r3, a-e", "ldp r4, =2*d-f", "global d", "section data", "d: word a, b, d, e, f-1"),
		lines("b: ldp r1, =b+0x80000000", "ldp r2, =c", "ldp r3, =-d", "equ c, 0-5", "global b", "section data", "e: byte 1", "global e", "f: word 0x80000000*b, 3*b-e", "global f"),
	)
	// a 0, b 27, d 64, e 84, f 85.
	builds(t, p,
		"32 01 40 00 00 00  32 02 55 00 00 00  32 03 ac ff ff ff  33 04 01 00  ff 2b 00 00 00"+
			" 33 01 09 00  33 02 09 00  33 03 09 00  ff 1b 00 00 80 fb ff ff ff c0 ff ff ff",
		"00 00 00 00 1b 00 00 00 40 00 00 00 54 00 00 00 54 00 00 00  01  00 00 00 80 fd ff ff ff")
	m := build(t, p)
	becomes(t, m, 0, 1, api.Inst{Op: 38, A: 1, N: 64})
	becomes(t, m, 0, 3, api.Inst{Op: 38, A: 3, N: -84})
	for _, c := range []struct {
		x     string
		n     int32
		bytes string
	}{
		{"0", 0, "00 00 00 00"}, {"-1", -1, "ff ff ff ff"}, {"4294967295", -1, "ff ff ff ff"},
		{"0x7fffffff", math.MaxInt32, "ff ff ff 7f"}, {"0x80000000", math.MinInt32, "00 00 00 80"}, {"0x80000001", math.MinInt32 + 1, "01 00 00 80"},
		{"-0x80000000", math.MinInt32, "00 00 00 80"}, {"3000000000", -1294967296, "00 5e d0 b2"},
		{"a", 6, "06 00 00 00"}, {"-a", -6, "fa ff ff ff"}, {"x", 16, "10 00 00 00"}, {"a-x", -10, "f6 ff ff ff"}, {"0x40000000*a", math.MinInt32, "00 00 00 80"}, {"0x10000000*x", 0, "00 00 00 00"},
	} {
		p := linked("li r1, " + c.x + "\na: halt\nsection data\nx: word " + c.x)
		builds(t, p, "32 01 "+c.bytes+" 01", c.bytes)
		becomes(t, build(t, p), 0, 0, api.Inst{Op: 38, A: 1, N: c.n})
		builds(t, linked("ldp r1, ="+c.x+"\nret\nret\na: halt\nsection data\nx: byte 1"), "33 01 04 00 02 02 01 ff "+c.bytes, "01")
	}
}

func TestJumpsIntoOtherUnitsAndData(t *testing.T) {
	p := linked(
		lines("jmp b", "a: call x", "ret", "global a"),
		"",
		lines("ldp r1, =b", "pool", "b: jz r1, a", "jnz r2, y", "global b", "section data", "byte 9", "x: word b", "global x"),
		lines("jmp a", "section data", "y: byte 5", "global y"),
	)
	// a 2, b 15, x 33, y 37.
	is(t, p, []int{1, 2, 4, 1, 1},
		"40 0d  44 1c 00  02  33 01 01 00  ff 0f 00 00 00  48 01 ed ff ff ff  49 02 0d  40 e8", "09 0f 00 00 00 05")
	refused(t, p, api.ErrArg, 1, 1, 1, 1)
}

// Few items.

func TestWithoutBytes(t *testing.T) {
	for _, srcs := range [][]string{
		{""}, {"", "", ""}, {"a:"}, {"a:", "b:\nsection data\nc:"}, {"pool"}, {"align 256"}, {"section data\nspace 0\nalign 64"},
		{"equ a, 5\nglobal a"}, {"a: pool\nalign 16\nb:\nglobal a", "align 2\nsection data\nspace 0\nc:"},
	} {
		p := linked(srcs...)
		builds(t, p, "", "")
		m := build(t, p)
		for at := -2; at < 3; at++ {
			nothingAt(t, m, at)
			noCode(t, m, at, 0)
			noCode(t, m, 0, at)
		}
		if l := m.Layout(); l.Code != 0 || l.Start != 0 || l.Size != 0 || len(m.Forms()) != 0 {
			t.Errorf("%+v, %v", l, m.Forms())
		}
	}
	builds(t, program(api.Unit{}), "", "")
	builds(t, program(api.Unit{Text: []api.Item{}, Data: []api.Item{}}), "", "")
}

func TestDataAlone(t *testing.T) {
	p := linked("section data\na: byte 1\nb: word a, b", "section data\nc: word c")
	builds(t, p, "", "01 00 00 00 00 01 00 00 00 09 00 00 00")
	m := build(t, p)
	for at := range 14 {
		nothingAt(t, m, at)
	}
	for unit := range 3 {
		for item := range 4 {
			noCode(t, m, unit, item)
		}
	}
}

func TestCodeAlone(t *testing.T) {
	p := linked("halt", "", "a: ret\njmp a")
	builds(t, p, "01 02 40 fd", "")
	m := build(t, p)
	liesAt(t, m, 0, image.Place{})
	liesAt(t, m, 1, image.Place{Unit: 2, Item: 1})
	liesAt(t, m, 2, image.Place{Unit: 2, Item: 2})
	nothingAt(t, m, 3)
	nothingAt(t, m, 4)
}

// As many bytes as an image may have, and one more.
func TestGreatestImages(t *testing.T) {
	for _, c := range []struct {
		srcs  []string
		forms []int
		want  api.Errno
	}{
		{[]string{"section data\nspace 1048575\nbyte -1"}, nil, api.OK},
		{[]string{"section data\nspace 1048576\nbyte -1"}, nil, api.ErrImage},
		{[]string{"section data\nspace 1048576"}, nil, api.OK},
		{[]string{"section data\nspace 1048576", "a:\nsection data\nspace 0\nb:"}, nil, api.OK},
		{[]string{"section data\nspace 1048576", "section data\nbyte 1"}, nil, api.ErrImage},
		{[]string{"halt\nsection data\nspace 1048559\nbyte 3"}, nil, api.OK},
		{[]string{"halt\nsection data\nspace 1048560\nbyte 3"}, nil, api.ErrImage},
		{[]string{nops(14) + "jmp 0\nsection data\nspace 1048560"}, []int{1}, api.OK},
		{[]string{nops(14) + "jmp 0\nsection data\nspace 1048560"}, []int{2}, api.ErrImage},
	} {
		p := linked(c.srcs...)
		if c.want != api.OK {
			refused(t, p, c.want, c.forms...)
			if c.forms == nil {
				unbuilt(t, p, c.want)
			}
			continue
		}
		m := with(t, p, c.forms...)
		b := m.Bytes()
		if len(b) != 1048576 || !bytes.Equal(b, tell(p, c.forms).bytes) {
			t.Errorf("%s: %d bytes", short(c.srcs), len(b))
		}
		nothingAt(t, m, 1048575)
		nothingAt(t, m, 1048576)
	}
	// Code that is so long: an align to 256, and 4095 times a Code and an align.
	u := api.Unit{Text: slices.Repeat([]api.Item{code("halt", api.Lin{}), {Kind: api.Align, N: 256}}, 4095)}
	p := program(u, unitOf("halt\nalign 256"))
	m := build(t, p)
	if b := m.Bytes(); !bytes.Equal(b, bytes.Repeat(octets("01 00x255"), 4096)) {
		t.Errorf("%d bytes", len(b))
	}
	liesAt(t, m, 256*4095, image.Place{Unit: 1})
	liesAt(t, m, 256*4094, image.Place{Item: 2 * 4094})
	unbuilt(t, program(u, unitOf("halt\nalign 256\nhalt")), api.ErrImage)
}

// Places that are none.

func TestInstOfWhatIsNone(t *testing.T) {
	p := linked("a: jmp a\nldp r1, =1\nalign 4\npool\nsection data\nword 1, 2, 3, 4, 5, 6", "halt", "section data\nbyte 1")
	m := build(t, p)
	becomes(t, m, 0, 1, api.Inst{Op: 40, N: -2, Form: 1})
	becomes(t, m, 0, 2, api.Inst{Op: 39, A: 1, N: 3})
	becomes(t, m, 1, 0, api.Inst{Op: 2})
	for _, item := range []int{0, 3, 4, 5} {
		noCode(t, m, 0, item)
	}
	numbers := []int{math.MinInt, math.MinInt32, -8192, -65, -3, -2, -1, 3, 4, 5, 64, 8192, 1 << 32, math.MaxInt32, math.MaxInt}
	for _, n := range numbers {
		for _, i := range append(numbers, 0, 1, 2) {
			noCode(t, m, n, i)
		}
		noCode(t, m, 0, n)
		noCode(t, m, 1, n)
		noCode(t, m, 2, n)
	}
	noCode(t, m, 2, 0)
	noCode(t, m, 1, 1)
	// No operation is number 0, and nothing is asked for by an address.
	noCode(t, m, 2, 1)
}

func TestWhereNothingLies(t *testing.T) {
	// jmp at 0, li at 2, ldp at 8, an align up to 16, print at 16, a pool at 18, halt at 23.
	m := build(t, linked("a: jmp a\nb: li r1, 0\nldp r1, =0\nc: align 16\nd: print r0\npool\ne: halt\nf:\nsection data\nbyte 1, 2"))
	begins := map[int]int{0: 1, 2: 3, 8: 4, 16: 8, 23: 11}
	for at := -300; at < 400; at++ {
		if item, ok := begins[at]; ok {
			liesAt(t, m, at, image.Place{Item: item})
			continue
		}
		nothingAt(t, m, at)
	}
	for _, at := range []int{math.MinInt, math.MinInt32, 1 << 20, 1 << 32, 1<<32 + 2, math.MaxInt32, math.MaxInt} {
		nothingAt(t, m, at)
	}
}

// Items of no byte lie where a Code does: Where tells the Code.
func TestWhereManyLie(t *testing.T) {
	p := linked("a: pool\nalign 4\nb: halt\nc: pool\nd: align 1\ne:", "f: align 1\npool\n", "g: ret\nh:")
	m := build(t, p)
	liesAt(t, m, 0, image.Place{Item: 4})
	liesAt(t, m, 1, image.Place{Unit: 2, Item: 1})
	nothingAt(t, m, 2)
	holds(t, m, p, nil)
}

// Programs of each kind.

// All ways of few lines, each with all forms.
func TestAllShortTexts(t *testing.T) {
	t.Parallel()
	parts := []string{"", "li r3, x-a", "pool", "ldp r1, =a", "ldp r2, =1", "jmp a", "jz r5, x", "align 8", "a:"}
	images := 0
	var extend func(l []string, used bool)
	extend = func(l []string, used bool) {
		if len(l) == 4 {
			src := lines(l...)
			if !used {
				src += "\nsection data\na:"
			}
			p := linked(src+"\nsection data\nx: word a, x", "halt")
			for _, forms := range allForms(p.Spans()) {
				if agrees(t, p, forms) {
					images++
				}
			}
			return
		}
		for _, c := range parts {
			if c != "a:" || !used {
				extend(append(l, c), used || c == "a:")
			}
		}
	}
	extend(nil, false)
	if images < 6000 {
		t.Errorf("%d images: too few to tell", images)
	}
}

func TestDrawnPrograms(t *testing.T) {
	t.Parallel()
	d := drawer{rand.New(rand.NewSource(17))}
	images, refusals := 0, 0
	for range 1500 {
		p := d.program()
		forms, _, _ := relax.Relax(p)
		if no := why(p, forms); no != api.OK {
			t.Fatalf("by %v: %v", forms, no)
		}
		m := build(t, p)
		holds(t, m, p, forms)
		for range 3 {
			if agrees(t, p, d.forms(p)) {
				images++
			} else {
				refusals++
			}
		}
	}
	if images < 2000 || refusals < 500 {
		t.Errorf("%d images, %d refusals: too few to tell", images, refusals)
	}
}
