package cpu_test

import (
	"fmt"
	"math"
	"math/rand"
	"slices"
	"strings"
	"testing"

	"spandrel/api"
	"spandrel/cpu"
	"spandrel/isa"
)

// The table 'Runs' and the 'Examples'.

func TestRuns(t *testing.T) {
	c := begun(t)
	goesOn(t, c, "lis r1, 7; lis r2, -2; div r1, r2")
	holds(t, c, 0, -3, -2)

	c = begun(t)
	goesOn(t, c, "lis r1, 3; lis r2, 4; zset z0, r1, r2; zmul z0, z0; zre r3, z0; zim r4, z0")
	holds(t, c, 0, 3, 4, -7, 24)

	c = begun(t)
	goesOn(t, c, "lis r2, 16")
	mem := []byte{0x78, 0x56, 0x34, 0x12}
	if e := c.Do(inst("ldw r1, r2"), 0, mem, 16); e != (cpu.Effect{}) {
		t.Errorf("ldw at 16: %+v", e)
	}
	holds(t, c, 0, 0x12345678, 16)
	goesOn(t, c, "lis r2, 17")
	if e := c.Do(inst("ldw r1, r2"), 0, mem, 16); e != traps(api.TrapMem) {
		t.Errorf("ldw at 17: %+v", e)
	}
	holds(t, c, 0, 0x12345678, 17)

	c = begun(t)
	goesOn(t, c, "li r1, 2147483647; add r1, r1")
	holds(t, c, 0, -2)

	c = begun(t)
	if e := does(c, "pop r1"); e != traps(api.TrapStack) {
		t.Errorf("pop: %+v", e)
	}
}

func TestExamples(t *testing.T) {
	c := begun(t)
	goesOn(t, c, "lis r1, 7; lis r2, 32; shl r1, r2")
	holds(t, c, 0, 7, 32)

	c = begun(t)
	goesOn(t, c, "zturn z0; lis r1, 9; zim r1, z0; lis r2, 9; zre r2, z0")
	holds(t, c)
	goesOn(t, c, "zturn z0; zturn z0; zturn z0; lis r1, 9; zim r1, z0; lis r2, 9; zre r2, z0")
	holds(t, c)

	c = begun(t)
	for n := range 4097 {
		want := cpu.Effect{}
		if n == 4096 {
			want = traps(api.TrapTrace)
		}
		if e := does(c, "print r1"); e != want {
			t.Fatalf("print %d: %+v", n+1, e)
		}
	}
}

func TestKindsAreNumberedFromNoughtOn(t *testing.T) {
	if l := []int{cpu.Next, cpu.Go, cpu.Call, cpu.Ret, cpu.Computed, cpu.Halt, cpu.Trap}; !slices.Equal(l, []int{0, 1, 2, 3, 4, 5, 6}) {
		t.Errorf("%v", l)
	}
}

// P18.1

func TestNew(t *testing.T) {
	for _, n := range []int{0, 1, 2, 255, 256, api.MaxInput - 1, api.MaxInput} {
		var input []int32
		for k := range n {
			input = append(input, int32(k*k)-3)
		}
		c, why := cpu.New(input)
		if c == nil || why != api.OK {
			t.Fatalf("%d numbers: %v, %v", n, c != nil, why)
		}
		holds(t, c)
		if len(c.Trace()) != 0 || c.Depth() != 0 {
			t.Errorf("%d numbers: %v, %d", n, short(c.Trace()), c.Depth())
		}
		if got, want := drained(c), drained(modelOf(input...)); got != want {
			t.Errorf("%d numbers: %s, not %s", n, short(got), short(want))
		}
	}
}

func TestNewOfTooMuch(t *testing.T) {
	for _, n := range []int{api.MaxInput + 1, api.MaxInput + 2, 1 << 16, 1 << 20} {
		if c, why := cpu.New(make([]int32, n)); c != nil || why != api.ErrMany {
			t.Errorf("%d numbers: %v, %v", n, c != nil, why)
		}
	}
	// What lies behind the length is not counted.
	if c, why := cpu.New(make([]int32, 5, 1<<14)); c == nil || why != api.OK {
		t.Errorf("5 numbers with room: %v, %v", c != nil, why)
	}
}

func TestNewOfNone(t *testing.T) {
	for _, input := range [][]int32{nil, {}, make([]int32, 0, 9)} {
		c, why := cpu.New(input)
		if c == nil || why != api.OK {
			t.Fatalf("%v", why)
		}
		if e := does(c, "in r1"); e != traps(api.TrapInput) {
			t.Errorf("in: %+v", e)
		}
	}
}

// P18.2

// Each operation with two numbers, its row of the table.
func TestReckons(t *testing.T) {
	for _, c := range []struct {
		name       string
		a, b, want int32
	}{
		{"mov", 1, 9, 9}, {"mov", 5, least, least}, {"mov", -5, 0, 0},
		{"add", 2, 3, 5}, {"add", most, 1, least}, {"add", least, -1, most}, {"add", least, least, 0}, {"add", -7, 7, 0},
		{"sub", 2, 3, -1}, {"sub", least, 1, most}, {"sub", most, -1, least}, {"sub", 0, least, least}, {"sub", 9, 9, 0},
		{"mul", -3, 7, -21}, {"mul", 65536, 65536, 0}, {"mul", least, -1, least}, {"mul", most, most, 1}, {"mul", 65537, 65537, 131073}, {"mul", 46341, 46341, -2147479015},
		{"div", 7, 2, 3}, {"div", -7, 2, -3}, {"div", 7, -2, -3}, {"div", -7, -2, 3}, {"div", 1, 2, 0}, {"div", -1, 2, 0}, {"div", 0, -5, 0},
		{"div", least, -1, least}, {"div", least, 1, least}, {"div", most, -1, -most}, {"div", least, least, 1}, {"div", most, least, 0}, {"div", least, most, -1},
		{"and", 12, 10, 8}, {"and", -1, least, least}, {"and", -2, 7, 6}, {"and", 5, 2, 0},
		{"or", 12, 10, 14}, {"or", least, 1, least + 1}, {"or", -1, 0, -1}, {"or", 0, 0, 0},
		{"xor", 12, 10, 6}, {"xor", -1, most, least}, {"xor", -1, -1, 0}, {"xor", least, 0, least},
		{"shl", 1, 0, 1}, {"shl", 1, 1, 2}, {"shl", 1, 31, least}, {"shl", 1, 32, 1}, {"shl", 1, 33, 2}, {"shl", 1, -1, least}, {"shl", 1, -32, 1}, {"shl", 3, 31, least}, {"shl", -1, 4, -16}, {"shl", 5, least, 5}, {"shl", 5, most, least},
		{"shr", 8, 1, 4}, {"shr", 8, 0, 8}, {"shr", 8, 4, 0}, {"shr", -1, 1, most}, {"shr", -1, 28, 15}, {"shr", least, 31, 1}, {"shr", -1, 32, -1}, {"shr", -1, 33, most}, {"shr", -1, -1, 1}, {"shr", 5, least, 5},
		{"lt", -1, 0, 1}, {"lt", 0, 0, 0}, {"lt", 1, -1, 0}, {"lt", least, most, 1}, {"lt", most, least, 0}, {"lt", 5, 6, 1}, {"lt", 6, 5, 0}, {"lt", least, least + 1, 1},
		{"eq", 5, 5, 1}, {"eq", 5, 6, 0}, {"eq", 0, 0, 1}, {"eq", least, least, 1}, {"eq", -1, most, 0}, {"eq", 1, 0x10001, 0},
	} {
		x := begun(t)
		set(t, x, 6, c.a)
		set(t, x, 3, c.b)
		goesOn(t, x, c.name+" r6, r3")
		holds(t, x, 0, 0, 0, c.b, 0, 0, c.want)
	}
}

func TestReckonsOne(t *testing.T) {
	for _, c := range []struct {
		name    string
		a, want int32
	}{
		{"neg", 0, 0}, {"neg", 1, -1}, {"neg", -1, 1}, {"neg", most, -most}, {"neg", least, least}, {"neg", 77, -77},
		{"not", 0, -1}, {"not", -1, 0}, {"not", 1, -2}, {"not", most, least}, {"not", least, most}, {"not", 0x0f0f0f0f, -0x0f0f0f10},
	} {
		x := begun(t)
		set(t, x, 7, c.a)
		set(t, x, 0, 5)
		goesOn(t, x, c.name+" r7")
		holds(t, x, 5, 0, 0, 0, 0, 0, 0, c.want)
	}
}

// two are the operations with two registers r, but for those with an address.
var two = []string{"mov", "add", "sub", "mul", "div", "and", "or", "xor", "shl", "shr", "lt", "eq"}

// With all of some numbers at which they turn, against the model.
func TestReckonsAtEdges(t *testing.T) {
	for _, name := range slices.Concat(two, []string{"neg", "not"}) {
		for _, a := range edges {
			for _, b := range edges {
				if name == "div" && b == 0 {
					continue
				}
				x := begun(t)
				set(t, x, 1, a)
				set(t, x, 2, b)
				said := name + " r1, r2"
				if name == "neg" || name == "not" {
					said = name + " r1"
				}
				goesOn(t, x, said)
				if got, want := x.Reg(1), wrapped(reckoned(name, a, b)); got != want || x.Reg(2) != b {
					t.Fatalf("%s of %d, %d: %d, %d, not %d", name, a, b, got, x.Reg(2), want)
				}
			}
		}
	}
}

// Every two registers, one and the same too: the others stay.
func TestReckonsInAllRegisters(t *testing.T) {
	begin := []int32{11, -5, 3, 40, 1000003, -77, 64, 9}
	for _, name := range two {
		for a := range 8 {
			for b := range 8 {
				x := begun(t)
				for n, v := range begin {
					set(t, x, n, v)
				}
				goesOn(t, x, fmt.Sprintf("%s r%d, r%d", name, a, b))
				want := slices.Clone(begin)
				want[a] = wrapped(reckoned(name, begin[a], begin[b]))
				holds(t, x, want...)
			}
		}
	}
}

func TestDivByNought(t *testing.T) {
	for _, a := range []int32{0, 1, -1, most, least} {
		x := begun(t)
		set(t, x, 1, a)
		if e := does(x, "div r1, r2"); e != traps(api.TrapDiv) {
			t.Errorf("%d by 0: %+v", a, e)
		}
		holds(t, x, 0, a)
	}
	x := begun(t)
	if e := does(x, "div r0, r0"); e != traps(api.TrapDiv) {
		t.Errorf("r0 by itself: %+v", e)
	}
}

func TestNumbersAreLoaded(t *testing.T) {
	x := begun(t)
	goesOn(t, x, "lis r0, -128; lis r1, 127; lis r2, 0; li r3, 2147483647; li r4, -2147483648; li r5, 1; lis r6, -1; lis r7, 5; lis r7, 6")
	holds(t, x, -128, 127, 0, most, least, 1, -1, 6)
	for n, word := range []int32{0, 1, -1, most, least, 77, 5, -6} {
		// The word is what is loaded: neither the distance nor the memory is asked.
		i := inst(fmt.Sprintf("ldp r%d, %d", n, n*585))
		if e := x.Do(i, word, []byte{9, 9, 9, 9}, n*585); e != (cpu.Effect{}) {
			t.Errorf("ldp: %+v", e)
		}
	}
	holds(t, x, 0, 1, -1, most, least, 77, 5, -6)
}

// The word that is handed in is asked by a load alone.
func TestWordIsOfLoadsAlone(t *testing.T) {
	for op := range isa.Ops() {
		i := sample(op + 1)
		if i.Op == inst("ldp r1, 0").Op {
			continue
		}
		x, y := begun(t, 5), begun(t, 5)
		if e, f := x.Do(i, 99, nil, 0), y.Do(i, 0, nil, 0); e != f {
			t.Errorf("%+v: %+v, %+v", i, e, f)
		}
		if drained(x) != drained(y) {
			t.Errorf("%+v hangs on the word", i)
		}
	}
}

// sample answers an instruction of that operation.
func sample(op int) api.Inst {
	i := api.Inst{Op: op}
	if isa.Spans(op) {
		i.Form = 1
	}
	return i
}

func TestEffects(t *testing.T) {
	for _, c := range []struct {
		said string
		want cpu.Effect
	}{
		{"nop", cpu.Effect{}},
		{"halt", cpu.Effect{Kind: cpu.Halt}},
		{"ret", cpu.Effect{Kind: cpu.Ret}},
		{"jmp 0", cpu.Effect{Kind: cpu.Go}}, {"jmp -5", cpu.Effect{Kind: cpu.Go}}, {"jmp 2147483647", cpu.Effect{Kind: cpu.Go}},
		{"call 0", cpu.Effect{Kind: cpu.Call}}, {"call 900", cpu.Effect{Kind: cpu.Call}},
		{"jz r0, 7", cpu.Effect{Kind: cpu.Go}}, {"jz r1, 7", cpu.Effect{}}, {"jz r2, 7", cpu.Effect{}}, {"jz r3, 0", cpu.Effect{}},
		{"jnz r0, 7", cpu.Effect{}}, {"jnz r1, 7", cpu.Effect{Kind: cpu.Go}}, {"jnz r2, 0", cpu.Effect{Kind: cpu.Go}}, {"jnz r3, -1", cpu.Effect{Kind: cpu.Go}},
		{"jr r0", cpu.Effect{Kind: cpu.Computed}}, {"jr r1", cpu.Effect{Kind: cpu.Computed, To: 1}},
		{"jr r2", cpu.Effect{Kind: cpu.Computed, To: 1<<32 - 1}}, {"jr r3", cpu.Effect{Kind: cpu.Computed, To: 1 << 31}},
		{"trap 0", traps(100)}, {"trap 1", traps(101)}, {"trap 255", traps(355)},
		{"lis r1, 1", cpu.Effect{}}, {"mov r1, r2", cpu.Effect{}}, {"zset z1, r1, r2", cpu.Effect{}}, {"zmul z1, z1", cpu.Effect{}},
	} {
		x := begun(t)
		goesOn(t, x, "lis r1, 1; lis r2, -1; li r3, -2147483648")
		if e := does(x, c.said); e != c.want {
			t.Errorf("%s: %+v, not %+v", c.said, e, c.want)
		}
	}
}

// A jump by any form has the same effect, and none of those that only go somewhere changes anything.
func TestWhatOnlyGoesChangesNothing(t *testing.T) {
	begin := "lis r0, 5; lis r2, -1; push r2; push r0; print r2; stm r0, r2; zset z1, r0, r2"
	for _, said := range []string{"nop", "halt", "ret", "jr r2", "trap 9", "jmp 5", "call 5", "jz r0, 5", "jz r1, 5", "jnz r0, 5", "jnz r1, 5"} {
		for _, form := range []int{1, 2, 4} {
			x, y := begun(t, 7, 8), begun(t, 7, 8)
			goesOn(t, x, begin)
			goesOn(t, y, begin)
			i := inst(said)
			if isa.Spans(i.Op) {
				i.Form = form
			}
			if e, want := x.Do(i, 3, []byte{1}, 2), does(y, said); e != want {
				t.Errorf("%s: %+v, not %+v", said, e, want)
			}
			z := begun(t, 7, 8)
			goesOn(t, z, begin)
			if drained(x) != drained(z) {
				t.Errorf("%s has changed something", said)
			}
		}
	}
}

func TestPrint(t *testing.T) {
	x := begun(t)
	goesOn(t, x, "lis r3, -9; print r3; print r0; li r3, -2147483648; print r3; print r3; li r7, 2147483647; print r7")
	if l := x.Trace(); !slices.Equal(l, []int32{-9, 0, least, least, most}) {
		t.Errorf("%v", l)
	}
	holds(t, x, 0, 0, 0, least, 0, 0, 0, most)
}

func TestInput(t *testing.T) {
	x := begun(t, 5, -6, most, least)
	goesOn(t, x, "in r1; in r7; in r1; in r0")
	holds(t, x, least, most, 0, 0, 0, 0, 0, -6)
	for range 3 {
		if e := does(x, "in r1"); e != traps(api.TrapInput) {
			t.Errorf("%+v", e)
		}
	}
	holds(t, x, least, most, 0, 0, 0, 0, 0, -6)
}

func TestStack(t *testing.T) {
	x := begun(t)
	goesOn(t, x, "lis r1, 1; lis r2, -2; push r1; push r2; push r2; push r0; push r1")
	if x.Depth() != 5 {
		t.Errorf("depth %d", x.Depth())
	}
	holds(t, x, 0, 1, -2)
	goesOn(t, x, "pop r3; pop r4; pop r5; pop r5; push r2; pop r6; pop r5")
	holds(t, x, 0, 1, -2, 1, 0, 1, -2)
	if x.Depth() != 0 {
		t.Errorf("depth %d", x.Depth())
	}
	for range 3 {
		if e := does(x, "pop r3"); e != traps(api.TrapStack) || x.Depth() != 0 {
			t.Errorf("%+v, %d", e, x.Depth())
		}
	}
	goesOn(t, x, "push r6; pop r0")
	holds(t, x, -2, 1, -2, 1, 0, 1, -2)
}

func TestWords(t *testing.T) {
	x := begun(t)
	for n := range int32(api.MaxRam) {
		set(t, x, 1, n)
		set(t, x, 2, 1000003*n-9)
		goesOn(t, x, "stm r1, r2")
	}
	// The register of the number may be the one of the word.
	goesOn(t, x, "lis r1, 77; stm r1, r1")
	for n := range int32(api.MaxRam) {
		want := 1000003*n - 9
		if n == 77 {
			want = 77
		}
		set(t, x, 5, n)
		goesOn(t, x, "ldm r6, r5; ldm r5, r5")
		holds(t, x, 0, 77, 1000003*255-9, 0, 0, want, want)
	}
	for _, n := range []int32{256, 257, 1 << 16, most, least, -1, -255, -256, least + 1} {
		set(t, x, 5, n)
		set(t, x, 6, 5)
		for _, said := range []string{"ldm r6, r5", "stm r5, r6"} {
			if e := does(x, said); e != traps(api.TrapMem) {
				t.Errorf("%s of %d: %+v", said, n, e)
			}
		}
		holds(t, x, 0, 77, 1000003*255-9, 0, 0, n, 5)
	}
}

// All addresses around some memory, wherever it lies.
func TestMemory(t *testing.T) {
	all := []byte{1, 2, 3, 0x84, 0xff, 0, 0x80, 7, 0xfe}
	for _, from := range []int{0, 1, 16, 1 << 20, 1<<31 - 3, 1 << 31, 1<<32 - 5, 1<<32 - 1, 1 << 32, 1<<32 + 1, -1, -3, -8, -9, -10, -1 << 32, math.MaxInt64, math.MaxInt64 - 4, math.MinInt64, math.MinInt64 + 4} {
		for n := range len(all) + 1 {
			for k := -6; k <= n+6; k++ {
				// One address by the place in the memory, the other one by the least and the greatest of all.
				for _, address := range []int64{int64(from) + int64(k), int64(k)} {
					checkMemory(t, all[:n], from, int32(address))
				}
			}
		}
	}
}

// checkMemory holds both loads from memory against the model.
func checkMemory(t *testing.T, mem []byte, from int, address int32) {
	t.Helper()
	for _, said := range []string{"ldb r1, r2", "ldw r1, r2", "ldb r2, r2", "ldw r2, r2"} {
		x, m := begun(t), modelOf()
		for _, d := range []doer{x, m} {
			d.Do(api.Inst{Op: inst("li r2, 0").Op, A: 2, N: address}, 0, nil, 0)
			d.Do(inst("lis r1, 55"), 0, nil, 0)
		}
		e, want := x.Do(inst(said), 0, mem, from), m.Do(inst(said), 0, mem, from)
		if e != want || x.Reg(1) != m.Reg(1) || x.Reg(2) != m.Reg(2) {
			t.Errorf("%s at %d, % x from %d on: %+v, %d, %d; not %+v, %d, %d", said, address, mem, from, e, x.Reg(1), x.Reg(2), want, m.Reg(1), m.Reg(2))
		}
	}
}

// The same with the bytes written out.
func TestMemoryByHand(t *testing.T) {
	mem := []byte{1, 2, 3, 0x84, 0xff}
	for _, c := range []struct {
		name       string
		from       int
		at, want   int32
		trap, size int
	}{
		{"ldb", 16, 16, 1, 0, 5}, {"ldb", 16, 19, 0x84, 0, 5}, {"ldb", 16, 20, 255, 0, 5}, {"ldb", 16, 21, 0, api.TrapMem, 5}, {"ldb", 16, 15, 0, api.TrapMem, 5}, {"ldb", 16, 20, 0, api.TrapMem, 4},
		{"ldw", 16, 16, 0x84030201 - 1<<32, 0, 5}, {"ldw", 16, 17, 0xff840302 - 1<<32, 0, 5}, {"ldw", 16, 18, 0, api.TrapMem, 5}, {"ldw", 16, 15, 0, api.TrapMem, 5}, {"ldw", 16, 17, 0, api.TrapMem, 4}, {"ldw", 16, 16, 0, api.TrapMem, 3},
		{"ldw", 0, -1, 0, api.TrapMem, 5}, {"ldb", 0, -1, 0, api.TrapMem, 5}, {"ldb", 0, 0, 0, api.TrapMem, 0}, {"ldb", 0, least, 0, api.TrapMem, 5},
		{"ldb", 1<<32 - 1, -1, 1, 0, 5}, {"ldw", 1<<32 - 1, -1, 0x84030201 - 1<<32, 0, 5}, {"ldb", 1<<32 - 1, 0, 0, api.TrapMem, 5}, {"ldb", 1 << 31, least, 1, 0, 5},
		{"ldb", -1, 0, 2, 0, 5}, {"ldw", -1, 0, 0xff840302 - 1<<32, 0, 5}, {"ldb", -1, -1, 0, api.TrapMem, 5}, {"ldw", -2, 0, 0, api.TrapMem, 5},
	} {
		x := begun(t)
		set(t, x, 2, c.at)
		e := x.Do(inst(c.name+" r1, r2"), 0, mem[:c.size], c.from)
		if want := (cpu.Effect{Kind: cpu.Trap, Trap: c.trap}); c.trap > 0 && e != want || c.trap == 0 && e != (cpu.Effect{}) || x.Reg(1) != c.want {
			t.Errorf("%+v: %+v, %d", c, e, x.Reg(1))
		}
	}
}

// What is asked of z.

// setZ makes z n the number a + bi; r6 and r7 are used for it.
func setZ(t *testing.T, c *cpu.Cpu, n int, a, b int32) {
	t.Helper()
	set(t, c, 6, a)
	set(t, c, 7, b)
	goesOn(t, c, fmt.Sprintf("zset z%d, r6, r7", n))
}

// partsAre asks for the parts of z n.
func partsAre(t *testing.T, c *cpu.Cpu, n int, a, b int32) {
	t.Helper()
	goesOn(t, c, fmt.Sprintf("zre r6, z%d; zim r7, z%d", n, n))
	if c.Reg(6) != a || c.Reg(7) != b {
		t.Errorf("z%d is %d + %di, not %d + %di", n, c.Reg(6), c.Reg(7), a, b)
	}
}

func TestZ(t *testing.T) {
	for _, c := range []struct {
		said string
		want [2]int32 // of z1 3 + 4i, z2 -5 + 2i
	}{
		{"zmov z1, z2", [2]int32{-5, 2}}, {"zadd z1, z2", [2]int32{-2, 6}}, {"zsub z1, z2", [2]int32{8, 2}}, {"zmul z1, z2", [2]int32{-23, -14}},
		{"zmov z1, z1", [2]int32{3, 4}}, {"zadd z1, z1", [2]int32{6, 8}}, {"zsub z1, z1", [2]int32{0, 0}}, {"zmul z1, z1", [2]int32{-7, 24}},
		{"zmov z1, z3", [2]int32{0, 0}}, {"zadd z1, z0", [2]int32{3, 4}}, {"zsub z1, z0", [2]int32{3, 4}}, {"zmul z1, z0", [2]int32{0, 0}},
		{"zturn z1", [2]int32{-4, 3}}, {"zconj z1", [2]int32{3, -4}}, {"zturn z1; zturn z1", [2]int32{-3, -4}}, {"zconj z1; zconj z1", [2]int32{3, 4}},
		{"zset z1, r1, r2", [2]int32{10, 20}}, {"zset z1, r2, r1", [2]int32{20, 10}}, {"zset z1, r1, r1", [2]int32{10, 10}}, {"zset z1, r3, r0", [2]int32{0, 0}},
	} {
		x := begun(t)
		goesOn(t, x, "lis r1, 10; lis r2, 20")
		setZ(t, x, 1, 3, 4)
		setZ(t, x, 2, -5, 2)
		goesOn(t, x, c.said)
		partsAre(t, x, 1, c.want[0], c.want[1])
		partsAre(t, x, 2, -5, 2)
		partsAre(t, x, 0, 0, 0)
		partsAre(t, x, 3, 0, 0)
		goesOn(t, x, "lis r6, 0; lis r7, 0")
		holds(t, x, 0, 10, 20)
	}
}

// All registers z, and all r as their parts.
func TestZInAllRegisters(t *testing.T) {
	for a := range 4 {
		for b := range 4 {
			for _, name := range []string{"zmov", "zadd", "zsub", "zmul"} {
				x, m := begun(t), modelOf()
				said := fmt.Sprintf("lis r0, 11; lis r1, -5; lis r2, 3; lis r3, 40; zset z0, r0, r1; zset z1, r1, r2; zset z2, r2, r3; zset z3, r3, r0; %s z%d, z%d", name, a, b)
				for part := range strings.SplitSeq(said, ";") {
					m.Do(inst(part), 0, nil, 0)
				}
				goesOn(t, x, said)
				if drained(x) != drained(m) {
					t.Errorf("%s z%d, z%d", name, a, b)
				}
			}
		}
	}
	for a := range 8 {
		for b := range 8 {
			for z := range 4 {
				x := begun(t)
				want := make([]int32, 8)
				for n := range want {
					want[n] = int32(n*n*n - 50)
					set(t, x, n, want[n])
				}
				goesOn(t, x, fmt.Sprintf("zset z%d, r%d, r%d", z, a, b))
				holds(t, x, want...)
				partsAre(t, x, z, want[a], want[b])
			}
		}
	}
}

// Each product is rounded on its own: reckoned in one go, these would be 1.
func TestProductsAreRounded(t *testing.T) {
	const n = 1 << 27
	x := begun(t)
	// (n + 1)(n + 1) is n n + 2n + 1, which no float64 is; n (n + 2) is one.
	setZ(t, x, 0, n+1, n)
	setZ(t, x, 1, n+1, n+2)
	goesOn(t, x, "zmul z0, z1; zre r1, z0")
	holds(t, x, 0, 0, 0, 0, 0, 0, n+1, n+2)

	x = begun(t)
	setZ(t, x, 0, n, n+1)
	setZ(t, x, 1, n+2, n+1)
	goesOn(t, x, "zmul z0, z1; zre r1, z0")
	holds(t, x, 0, 0, 0, 0, 0, 0, n+2, n+1)

	x = begun(t)
	setZ(t, x, 0, n+1, -n)
	setZ(t, x, 1, n+2, n+1)
	goesOn(t, x, "zmul z0, z1; zim r1, z0")
	holds(t, x, 0, 0, 0, 0, 0, 0, n+2, n+1)

	x = begun(t)
	setZ(t, x, 0, -n, n+1)
	setZ(t, x, 1, n+1, n+2)
	goesOn(t, x, "zmul z0, z1; zim r1, z0")
	holds(t, x, 0, 0, 0, 0, 0, 0, n+1, n+2)
}

// A part is told up to the ends of what a register holds.
func TestWholeParts(t *testing.T) {
	for _, c := range []struct {
		a, b int32
		ok   bool
	}{
		{most, 0, true}, {most, 1, false}, {most - 1, 1, true}, {most, -1, true}, {most, most, false}, {1 << 30, 1 << 30, false},
		{least, 0, true}, {least, -1, false}, {least + 1, -1, true}, {least, 1, true}, {least, least, false}, {least, most, true}, {0, 0, true},
	} {
		for _, part := range []string{"zre", "zim"} {
			x := begun(t)
			if part == "zre" {
				setZ(t, x, 0, c.a, 5)
				setZ(t, x, 1, c.b, 6)
			} else {
				setZ(t, x, 0, 5, c.a)
				setZ(t, x, 1, 6, c.b)
			}
			goesOn(t, x, "lis r6, 0; lis r7, 0; lis r3, 9; zadd z0, z1")
			e := does(x, part+" r3, z0")
			if c.ok {
				holds(t, x, 0, 0, 0, c.a+c.b)
			} else {
				holds(t, x, 0, 0, 0, 9)
			}
			if c.ok && e != (cpu.Effect{}) || !c.ok && e != traps(api.TrapWhole) {
				t.Errorf("%s of %d and %d: %+v", part, c.a, c.b, e)
			}
		}
	}
}

// The least number, turned, is one more than a register holds; told in the other part all the same.
func TestTurnedLeast(t *testing.T) {
	x := begun(t)
	setZ(t, x, 2, least, least)
	goesOn(t, x, "zturn z2")
	if e := does(x, "zre r1, z2"); e != traps(api.TrapWhole) {
		t.Errorf("zre: %+v", e)
	}
	goesOn(t, x, "zim r1, z2; zturn z2")
	if e := does(x, "zre r2, z2"); e != traps(api.TrapWhole) {
		t.Errorf("zre: %+v", e)
	}
	if e := does(x, "zim r2, z2"); e != traps(api.TrapWhole) {
		t.Errorf("zim: %+v", e)
	}
	goesOn(t, x, "zturn z2; zturn z2; zre r3, z2; zim r4, z2; lis r6, 0; lis r7, 0")
	holds(t, x, 0, least, 0, least, least)
}

// Products grow beyond all numbers, and what comes of them is none; neither is told, and neither is left in z for good.
func TestPartsBeyondNumbers(t *testing.T) {
	x := begun(t)
	setZ(t, x, 0, most, 1)
	for range 12 {
		goesOn(t, x, "zmul z0, z0")
		for _, said := range []string{"zre r1, z0", "zim r1, z0"} {
			if e := does(x, said); e != traps(api.TrapWhole) {
				t.Fatalf("%s: %+v", said, e)
			}
		}
	}
	for _, said := range []string{"zsub z0, z0", "zadd z0, z1", "zmul z0, z1", "zturn z0", "zconj z0", "zmov z2, z0", "zmov z0, z2"} {
		goesOn(t, x, said)
		for _, part := range []string{"zre r1, z0", "zim r1, z0"} {
			if e := does(x, part); e != traps(api.TrapWhole) {
				t.Errorf("%s behind %s: %+v", part, said, e)
			}
		}
	}
	goesOn(t, x, "zmov z0, z1; lis r6, 0; lis r7, 0")
	partsAre(t, x, 0, 0, 0)
	setZ(t, x, 2, 3, 4)
	partsAre(t, x, 2, 3, 4)
}

// Great numbers that come down again are told as they are.
func TestPartsComeBack(t *testing.T) {
	x := begun(t)
	setZ(t, x, 0, most, least)
	goesOn(t, x, "zmov z1, z0; zadd z0, z0; zadd z0, z0; zsub z0, z1; zsub z0, z1; zsub z0, z1")
	partsAre(t, x, 0, most, least)
	// 2^53 is the last number up to which all whole ones are told apart.
	setZ(t, x, 0, 1<<26, 0)
	setZ(t, x, 1, 1<<27, 0)
	setZ(t, x, 2, 1, 0)
	goesOn(t, x, "zmul z0, z1; zmov z3, z0; zadd z0, z2; zsub z0, z3")
	partsAre(t, x, 0, 0, 0)
	goesOn(t, x, "zmov z0, z3; zsub z0, z2; zsub z0, z3")
	partsAre(t, x, 0, -1, 0)
}

// Wrong instructions.

// wrong are instructions that isa.Check refuses, of each kind.
func wrong() []api.Inst {
	l := []api.Inst{{}, {Op: -1}, {Op: 44}, {Op: math.MaxInt}, {Op: math.MinInt}, {Op: 0, A: 1, Form: 1}}
	for op := range isa.Ops() {
		i := sample(op + 1)
		o, _ := isa.At(op + 1)
		for _, f := range []func(*api.Inst){
			func(i *api.Inst) { i.A = -1 }, func(i *api.Inst) { i.A = 8 }, func(i *api.Inst) { i.A = math.MinInt }, func(i *api.Inst) { i.A = math.MaxInt },
			func(i *api.Inst) { i.B = -1 }, func(i *api.Inst) { i.B = 8 }, func(i *api.Inst) { i.B = math.MaxInt },
			func(i *api.Inst) { i.Form = 3 }, func(i *api.Inst) { i.Form = -1 }, func(i *api.Inst) { i.Form = 8 },
		} {
			w := i
			f(&w)
			l = append(l, w)
		}
		switch o.Shape {
		case isa.Jump, isa.Branch:
			l = append(l, api.Inst{Op: i.Op}, api.Inst{Op: i.Op, Form: 1, N: 128}, api.Inst{Op: i.Op, Form: 2, N: -32769}, api.Inst{Op: i.Op, B: 1, Form: 1})
		case isa.Build:
			l = append(l, api.Inst{Op: i.Op, N: 8}, api.Inst{Op: i.Op, N: -1}, api.Inst{Op: i.Op, A: 4}, api.Inst{Op: i.Op, Form: 1})
		case isa.ZReg, isa.ZTwo:
			l = append(l, api.Inst{Op: i.Op, A: 4}, api.Inst{Op: i.Op, B: 4}, api.Inst{Op: i.Op, N: 1})
		case isa.Part:
			l = append(l, api.Inst{Op: i.Op, B: 4}, api.Inst{Op: i.Op, N: 1})
		case isa.Small:
			l = append(l, api.Inst{Op: i.Op, N: 128}, api.Inst{Op: i.Op, N: -129}, api.Inst{Op: i.Op, B: 1})
		case isa.Own:
			l = append(l, api.Inst{Op: i.Op, N: 256}, api.Inst{Op: i.Op, N: -1}, api.Inst{Op: i.Op, A: 1})
		case isa.Load:
			l = append(l, api.Inst{Op: i.Op, N: 4096}, api.Inst{Op: i.Op, N: -1}, api.Inst{Op: i.Op, B: 1})
		case isa.None:
			l = append(l, api.Inst{Op: i.Op, A: 1}, api.Inst{Op: i.Op, B: 1}, api.Inst{Op: i.Op, N: 1}, api.Inst{Op: i.Op, Form: 1})
		case isa.Reg:
			l = append(l, api.Inst{Op: i.Op, B: 1}, api.Inst{Op: i.Op, N: 1}, api.Inst{Op: i.Op, Form: 2})
		case isa.Two:
			l = append(l, api.Inst{Op: i.Op, N: 1}, api.Inst{Op: i.Op, N: -1}, api.Inst{Op: i.Op, Form: 4})
		case isa.Wide:
			l = append(l, api.Inst{Op: i.Op, B: 1}, api.Inst{Op: i.Op, Form: 4})
		}
	}
	return l
}

func TestWrongInstructions(t *testing.T) {
	begin := "lis r1, 5; lis r2, -1; lis r7, 7; push r2; push r1; print r2; stm r1, r2; zset z1, r1, r2"
	fresh := begun(t, 7, 8)
	goesOn(t, fresh, begin)
	want := drained(fresh)
	for _, i := range wrong() {
		if isa.Check(i) == api.OK {
			t.Fatalf("%+v is none of the wrong ones", i)
		}
		x := begun(t, 7, 8)
		goesOn(t, x, begin)
		if e := x.Do(i, 9, []byte{1, 2, 3, 4, 5}, 0); e != traps(api.TrapCode) {
			t.Errorf("%+v: %+v", i, e)
		}
		if got := drained(x); got != want {
			t.Errorf("%+v has changed something: %s", i, short(got))
		}
	}
}

// A trap changes nothing else.
func TestTrapsChangeNothing(t *testing.T) {
	begin := "lis r1, 5; li r2, 256; li r3, -1; push r2; push r1; print r2; stm r1, r2; zset z1, r1, r2; lis r4, 2; zset z2, r4, r3; zmul z3, z2"
	large := strings.Repeat("; zmul z1, z1", 9)
	for _, c := range []struct {
		begin, said string
		trap        int
	}{
		{begin, "div r1, r0", api.TrapDiv}, {begin, "div r3, r5", api.TrapDiv},
		{begin, "ldb r1, r2", api.TrapMem}, {begin, "ldw r1, r2", api.TrapMem}, {begin, "ldw r5, r5", api.TrapMem}, {begin, "ldb r3, r3", api.TrapMem},
		{begin, "ldm r1, r2", api.TrapMem}, {begin, "ldm r2, r2", api.TrapMem}, {begin, "ldm r1, r3", api.TrapMem}, {begin, "stm r2, r1", api.TrapMem}, {begin, "stm r3, r1", api.TrapMem}, {begin, "stm r3, r3", api.TrapMem},
		{begin, "trap 0", 100}, {begin, "trap 77", 177},
		{begin + large, "zre r1, z1", api.TrapWhole}, {begin + large, "zim r1, z1", api.TrapWhole},
		{begin + "; in r6; in r6", "in r1", api.TrapInput},
		{begin + "; pop r6; pop r6", "pop r1", api.TrapStack},
		{begin + strings.Repeat("; push r1", api.MaxStack-2), "push r3", api.TrapStack},
		{begin + strings.Repeat("; print r1", api.MaxTrace-1), "print r3", api.TrapTrace},
	} {
		x, y := begun(t, 7, 8), begun(t, 7, 8)
		goesOn(t, x, c.begin)
		goesOn(t, y, c.begin)
		for range 2 {
			if e := x.Do(inst(c.said), 3, []byte{1, 2, 3}, 300); e != traps(c.trap) {
				t.Errorf("%s: %+v", c.said, e)
			}
		}
		if drained(x) != drained(y) {
			t.Errorf("%s has changed something", c.said)
		}
	}
}

// P18.3

func TestReg(t *testing.T) {
	x := begun(t)
	for n := range int32(8) {
		set(t, x, int(n), n+20)
	}
	setZ(t, x, 3, 27, 26)
	set(t, x, 6, 26)
	set(t, x, 7, 27)
	holds(t, x, 20, 21, 22, 23, 24, 25, 26, 27)
	for _, n := range []int{-1, 8, 9, 10, 11, 12, 255, 256, -8, math.MaxInt, math.MinInt, 1 << 32, 1<<32 + 1} {
		if got := x.Reg(n); got != 0 {
			t.Errorf("r%d: %d", n, got)
		}
	}
}

func TestTraceAndDepth(t *testing.T) {
	x := begun(t)
	var want []int32
	for n := range int32(300) {
		set(t, x, 1, 7*n-900)
		goesOn(t, x, "print r1")
		want = append(want, 7*n-900)
		if n < api.MaxStack {
			goesOn(t, x, "push r1")
		}
		if !slices.Equal(x.Trace(), want) || x.Depth() != int(min(n+1, api.MaxStack)) {
			t.Fatalf("%d: %s, %d", n, short(x.Trace()), x.Depth())
		}
	}
}

// Drawn instructions, against the model.

// drawn answers an instruction, which is mostly a right one.
func drawn(r *rand.Rand) api.Inst {
	op := 1 + r.Intn(len(isa.Ops()))
	o, _ := isa.At(op)
	l := []int{r.Intn(8), r.Intn(8), r.Intn(8)}
	switch o.Shape {
	case isa.None:
		l = []int{0, 0, 0}
	case isa.Reg:
		l[1], l[2] = 0, 0
	case isa.ZReg:
		l = []int{r.Intn(4), 0, 0}
	case isa.ZTwo:
		l = []int{r.Intn(4), r.Intn(4), 0}
	case isa.Part:
		l[1], l[2] = r.Intn(4), 0
	case isa.Build:
		l[0] = r.Intn(4)
	case isa.Two:
		l[2] = 0
	case isa.Small:
		l[1] = r.Intn(256) - 128
	case isa.Own:
		l[0] = r.Intn(256)
	case isa.Load:
		l[1] = r.Intn(4096)
	case isa.Wide:
		l[1] = int(edges[r.Intn(len(edges))])
	case isa.Jump:
		l[0] = int(r.Uint32())
	case isa.Branch:
		l[1] = int(r.Uint32())
	}
	i := shaped(op, o.Shape, l)
	if o.Shape != isa.Build && o.Shape != isa.Small && o.Shape != isa.Wide && o.Shape != isa.Own && o.Shape != isa.Load && !isa.Spans(op) {
		i.N = 0
	}
	if r.Intn(40) == 0 {
		spoil(r, &i)
	}
	return i
}

// spoil changes one thing of i.
func spoil(r *rand.Rand, i *api.Inst) {
	switch r.Intn(5) {
	case 0:
		i.Op = r.Intn(48) - 2
	case 1:
		i.A = r.Intn(12) - 2
	case 2:
		i.B = r.Intn(12) - 2
	case 3:
		i.N = edges[r.Intn(len(edges))]
	case 4:
		i.Form = r.Intn(6) - 1
	}
}

// drawnInput answers numbers of all sizes.
func drawnInput(r *rand.Rand) []int32 {
	var l []int32
	for range r.Intn(30) {
		l = append(l, edges[r.Intn(len(edges))], int32(r.Intn(300)))
	}
	return l
}

func TestDrawnRuns(t *testing.T) {
	r := rand.New(rand.NewSource(18))
	seen := map[cpu.Effect]int{}
	for run := range 600 {
		input := drawnInput(r)
		x, m := begun(t, input...), modelOf(input...)
		mem := make([]byte, r.Intn(40))
		r.Read(mem)
		from := []int{0, 0, 16, 100, -3, 1 << 31}[r.Intn(6)]
		for step := range 300 {
			i, word := drawn(r), edges[r.Intn(len(edges))]
			e, want := x.Do(i, word, mem, from), m.Do(i, word, mem, from)
			if e != want {
				t.Fatalf("run %d, step %d, %+v: %+v, not %+v", run, step, i, e, want)
			}
			seen[cpu.Effect{Kind: e.Kind, Trap: min(e.Trap, api.TrapOwn)}]++
			for n := range 8 {
				if x.Reg(n) != m.Reg(n) {
					t.Fatalf("run %d, step %d, %+v: r%d is %d, not %d", run, step, i, n, x.Reg(n), m.Reg(n))
				}
			}
			if x.Depth() != m.Depth() || !slices.Equal(x.Trace(), m.Trace()) {
				t.Fatalf("run %d, step %d, %+v: %d, %v", run, step, i, x.Depth(), short(x.Trace()))
			}
		}
		if got, want := drained(x), drained(m); got != want {
			t.Fatalf("run %d: %s, not %s", run, short(got), short(want))
		}
	}
	// Every effect comes in these runs but for full prints and a full stack, which have a test of their own.
	for _, e := range []cpu.Effect{{}, {Kind: cpu.Go}, {Kind: cpu.Call}, {Kind: cpu.Ret}, {Kind: cpu.Computed}, {Kind: cpu.Halt}, traps(1), traps(2), traps(3), traps(4), traps(6), traps(8), traps(100)} {
		if seen[e] == 0 {
			t.Errorf("%+v never comes", e)
		}
	}
}

// All instructions of some forms, right and wrong, on one state: what isa.Check takes is done, the rest is none.
func TestAllInstructions(t *testing.T) {
	begin := "li r0, 300; lis r1, 5; lis r2, -1; li r3, 65537; lis r4, 0; lis r5, 17; li r6, -2147483648; lis r7, 31; push r3; stm r1, r2; zset z0, r5, r2; zset z1, r1, r3; zset z3, r6, r6; print r7"
	begins := strings.Split(begin, ";")
	for op := -1; op <= 45; op++ {
		for a := -1; a <= 8; a++ {
			for b := -1; b <= 8; b++ {
				for _, n := range []int32{0, 1, 7, 8, -1} {
					for _, form := range []int{0, 1} {
						i := api.Inst{Op: op, A: a, B: b, N: n, Form: form}
						x, m := begun(t, 1), modelOf(1)
						for _, part := range begins {
							x.Do(inst(part), 0, nil, 0)
							m.Do(inst(part), 0, nil, 0)
						}
						e, want := x.Do(i, 7, []byte{1, 2, 3, 4, 5}, 4), m.Do(i, 7, []byte{1, 2, 3, 4, 5}, 4)
						if e != want {
							t.Fatalf("%+v: %+v, not %+v", i, e, want)
						}
						if isa.Check(i) == api.OK && drained(x) != drained(m) {
							t.Fatalf("%+v", i)
						}
					}
				}
			}
		}
	}
}
