package vm_test

import (
	"fmt"
	"math"
	"math/rand"
	"slices"
	"strings"
	"testing"

	"spandrel/api"
	"spandrel/cpu"
	"spandrel/image"
	"spandrel/vm"
)

// The table 'Runs' and the 'Examples'.

func TestRuns(t *testing.T) {
	comes(t, begun(t, built(lines("lis r0, 7", "halt"))), 9, halted(7, 4, 2))
	comes(t, begun(t, built("a: jmp a")), 5, running(0, 5))
	comes(t, begun(t, built("")), 1, trapped(1, 0, 1))
	comes(t, begun(t, built(lines("ldp r1, =5", "print r1"))), 9, printing(trapped(1, 6, 3), 5))
	comes(t, begun(t, built("ret")), 9, trapped(5, 1, 1))
}

func TestExamples(t *testing.T) {
	x := begun(t, built(lines("lis r0, 7", "print r0", "halt")))
	comes(t, x, 0, vm.State{})
	ran(t, x, 2)
	comes(t, x, 0, printing(running(5, 2), 7))

	if s, why := x.Run(-1); why != api.ErrArg || !same(s, vm.State{}) {
		t.Errorf("Run(-1): %s, %v", short(s), why)
	}

	comes(t, over(t, "ff 7f 0c"), 9, trapped(api.TrapCode, 0, 1))
}

// P19.1

func TestNewHasAllInputAhead(t *testing.T) {
	m := built(lines("a: in r1", "print r1", "jmp a"))
	for _, n := range []int{0, 1, 2, 255, 256, api.MaxInput - 1, api.MaxInput} {
		var input []int32
		for k := range n {
			input = append(input, int32(k*k)-3)
		}
		comes(t, begun(t, m, input...), api.MaxFuel, printing(trapped(api.TrapInput, 2, 3*n+1), input...))
		l := m.Layout()
		comes(t, raw(t, m.Bytes(), l.Code, l.Start, input...), api.MaxFuel, printing(trapped(api.TrapInput, 2, 3*n+1), input...))
	}
}

func TestNewBegins(t *testing.T) {
	for _, x := range []*vm.Machine{
		begun(t, built(lines("lis r1, 5", "push r1", "call 0")), 1, 2), begun(t, built("", "")), over(t, ""), over(t, "ff"),
	} {
		if s := x.State(); !same(s, vm.State{}) || x.Depth() != 0 || len(x.Trace()) != 0 {
			t.Errorf("%+v, %d entries, prints %d", s, x.Depth(), x.Trace())
		}
		holds(t, x)
	}
}

func TestNewOfWrong(t *testing.T) {
	m := built(lines("lis r0, 7", "halt"))
	for _, n := range []int{api.MaxInput + 1, api.MaxInput + 2, 1 << 16} {
		if x, why := vm.New(m, make([]int32, n)); x != nil || why != api.ErrMany {
			t.Errorf("%d numbers: %v, %v", n, x != nil, why)
		}
		if x, why := vm.Raw([]byte{1}, 1, 1, make([]int32, n)); x != nil || why != api.ErrMany {
			t.Errorf("%d numbers: %v, %v", n, x != nil, why)
		}
	}
	// What lies behind the length is not counted.
	comes(t, begun(t, m, make([]int32, 5, 1<<14)...), 9, halted(7, 4, 2))
	if x, why := vm.New(m, make([]int32, 5, 1<<14)); x == nil || why != api.OK {
		t.Errorf("5 numbers with room: %v", why)
	}
	// That there is no image is told first.
	for _, input := range [][]int32{nil, {}, {1}, make([]int32, api.MaxInput+1)} {
		if x, why := vm.New(nil, input); x != nil || why != api.ErrArg {
			t.Errorf("no image: %v, %v", x != nil, why)
		}
	}
}

func TestRawOfWrong(t *testing.T) {
	for _, c := range [][3]int{
		{0, -1, 0}, {0, -1, -1}, {9, -1, 5}, {9, math.MinInt, 5}, {9, math.MinInt, math.MaxInt},
		{0, 1, 0}, {4, 3, 2}, {9, 9, 8}, {9, 1, 0}, {9, 5, -1}, {9, 0, -1}, {9, math.MaxInt, 0}, {9, 0, math.MinInt}, {9, 10, 9},
		{0, 0, 1}, {0, 1, 1}, {4, 3, 5}, {4, 5, 5}, {9, 0, 10}, {9, 9, 10}, {9, 10, 10}, {9, math.MaxInt, math.MaxInt}, {9, 0, math.MaxInt},
	} {
		for _, n := range []int{0, 1, api.MaxInput + 1} {
			if x, why := vm.Raw(make([]byte, c[0]), c[1], c[2], make([]int32, n)); x != nil || why != api.ErrArg {
				t.Errorf("%d bytes, %d, %d, %d numbers: %v, %v", c[0], c[1], c[2], n, x != nil, why)
			}
		}
		// The room behind the bytes is none of them.
		if x, why := vm.Raw(make([]byte, c[0], 64), c[1], c[2], nil); x != nil || why != api.ErrArg {
			t.Errorf("%d bytes with room, %d, %d: %v, %v", c[0], c[1], c[2], x != nil, why)
		}
	}
}

// Every code and start that may be, of few bytes.
func TestRawOfAllPlaces(t *testing.T) {
	b := octets("00 00 01 00 00 02")
	for n := range len(b) + 1 {
		for code := -2; code < n+3; code++ {
			for start := -2; start < n+3; start++ {
				x, why := vm.Raw(b[:n], code, start, nil)
				right := 0 <= code && code <= start && start <= n
				if right != (x != nil) || right != (why == api.OK) || !right && why != api.ErrArg {
					t.Fatalf("%d bytes, %d, %d: %v, %v", n, code, start, x != nil, why)
				}
				if right {
					agrees(t, b[:n], code, start, nil, 1, 1, 1, 1, 9)
				}
			}
		}
	}
	if x, why := vm.Raw(nil, 0, 0, nil); x == nil || why != api.OK {
		t.Errorf("no bytes: %v", why)
	}
}

// New is Raw of an image's bytes, its Layout's Code and its Start.
func TestNewIsRaw(t *testing.T) {
	d := drawer{rand.New(rand.NewSource(1))}
	for range 200 {
		m := built(d.source())
		l := m.Layout()
		x, y := begun(t, m, 4, -1, 3), raw(t, m.Bytes(), l.Code, l.Start, 4, -1, 3)
		for range 10 {
			fuel := d.Intn(30)
			if a, b := ran(t, x, fuel), ran(t, y, fuel); !same(a, b) || tells(x) != tells(y) {
				t.Fatalf("%s, not %s", short(a), short(b))
			}
		}
	}
}

// What instructions read lies from start on, at its address.
func TestMemory(t *testing.T) {
	const ldb, ldw = "1c", "1d"
	mem := []byte{1, 2, 3, 4, 127}
	for _, c := range []struct {
		op      string
		gap, at int
		want    int32
		traps   bool
	}{
		{ldw, 0, 0, 0x04030201, false}, {ldw, 0, 1, 0x7f040302, false}, {ldw, 0, 2, 0, true}, {ldw, 0, -1, 0, true}, {ldw, 0, 5, 0, true},
		{ldw, 7, 0, 0x04030201, false}, {ldw, 7, 1, 0x7f040302, false}, {ldw, 7, 2, 0, true}, {ldw, 7, -1, 0, true}, {ldw, 7, -7, 0, true}, {ldw, 7, -14, 0, true},
		{ldb, 0, 0, 1, false}, {ldb, 0, 4, 127, false}, {ldb, 0, 5, 0, true}, {ldb, 0, -1, 0, true},
		{ldb, 7, 0, 1, false}, {ldb, 7, 4, 127, false}, {ldb, 7, 5, 0, true}, {ldb, 7, -1, 0, true}, {ldb, 7, -8, 0, true},
	} {
		// in r1; the load of r2 by r1; print r2; halt.
		code := octets("04 01 " + c.op + " 21 03 02 01")
		start := len(code) + c.gap
		x := raw(t, slices.Concat(code, make([]byte, c.gap), mem), len(code), start, int32(start+c.at))
		want := printing(halted(0, len(code), 4), c.want)
		if c.traps {
			want = trapped(api.TrapMem, 4, 2)
		}
		comes(t, x, 9, want)
	}
}

// What lies in an image between its code and its data is neither.
func TestBetweenCodeAndData(t *testing.T) {
	m := built(lines("in r1", "ldb r2, r1", "print r2", "halt", "section data", "byte 9"))
	if l := m.Layout(); l.Code != 7 || l.Start != 16 || l.Size != 17 {
		t.Fatalf("%+v", l)
	}
	for at := range int32(20) {
		want := trapped(api.TrapMem, 4, 2)
		if at == 16 {
			want = printing(halted(0, 7, 4), 9)
		}
		comes(t, begun(t, m, at), 9, want)
	}
	m = built(lines("in r1", "jr r1", "section data", "word 0"))
	for at := 4; at < 20; at++ {
		comes(t, begun(t, m, int32(at)), 9, trapped(api.TrapCode, at, 3))
	}
}

func TestNoMemory(t *testing.T) {
	for _, address := range []int32{0, 4, 5, least, most, -1} {
		x := over(t, "04 01 1c 21 01", address)
		comes(t, x, 9, trapped(api.TrapMem, 4, 2))
	}
	// All of it is memory, and no code is there.
	x := raw(t, []byte{1, 2, 3}, 0, 0)
	comes(t, x, 9, trapped(api.TrapCode, 0, 1))
}

// P19.2

func TestFuel(t *testing.T) {
	for _, m := range []*image.Image{built("a: jmp a"), built(lines("lis r0, 7", "halt")), built("")} {
		x := begun(t, m)
		for range 3 {
			before := tells(x)
			for _, fuel := range []int{-1, -2, math.MinInt, -1 << 20, api.MaxFuel + 1, api.MaxFuel + 2, math.MaxInt, 1 << 32, 1<<32 + 1} {
				if s, why := x.Run(fuel); why != api.ErrArg || s.Trace != nil || !same(s, vm.State{}) {
					t.Errorf("Run(%d): %s, %v", fuel, short(s), why)
				}
			}
			if got := tells(x); got != before {
				t.Errorf("%s has become %s", before, got)
			}
			ran(t, x, 2)
		}
	}
	x := begun(t, built("a: jmp a"))
	for n := range 5 {
		comes(t, x, 0, running(0, n))
		comes(t, x, 1, running(0, n+1))
	}
	comes(t, x, api.MaxFuel, running(0, 5+api.MaxFuel))
}

func TestFuelOfEach(t *testing.T) {
	for fuel, want := range []vm.State{
		running(0, 0), running(3, 1), printing(running(5, 2), 7), printing(running(6, 3), 7), printing(halted(7, 7, 4), 7),
		printing(halted(7, 7, 4), 7), printing(halted(7, 7, 4), 7),
	} {
		comes(t, begun(t, built(lines("lis r0, 7", "print r0", "nop", "halt"))), fuel, want)
	}
}

// Programs that do something.
func TestPrograms(t *testing.T) {
	for _, c := range []struct {
		src   string
		input []int32
		want  []int32
		value int
	}{
		{lines("in r1", "lis r0, 0", "lis r2, -1", "a: jz r1, b", "add r0, r1", "add r1, r2", "jmp a", "b: halt"), []int32{100}, nil, 5050},
		{lines("lis r1, 0", "lis r2, 1", "lis r3, 10", "lis r4, -1", "a: print r1", "mov r0, r1", "add r0, r2", "mov r1, r2", "mov r2, r0", "add r3, r4", "jnz r3, a", "halt"),
			nil, []int32{0, 1, 1, 2, 3, 5, 8, 13, 21, 34}, 89},
		// What is below 2 is 1; else n times what n - 1 comes to.
		{lines("in r1", "call f", "halt", "f: lis r2, 2", "lt r2, r1", "jnz r2, g", "mov r0, r1", "ret", "g: push r1", "lis r2, -1", "add r1, r2", "call f", "pop r1", "mul r0, r1", "ret"), []int32{10}, nil, 3628800},
		{lines("li r1, t", "lis r5, 4", "li r3, e", "a: ldw r2, r1", "print r2", "add r1, r5", "mov r4, r1", "lt r4, r3", "jnz r4, a", "halt", "section data", "t: word 5, -7, 70000, t", "e:"),
			nil, []int32{5, -7, 70000, 32}, 0},
		{lines("li r1, t", "ldb r2, r1", "print r2", "ldp r3, =300", "add r0, r3", "ldp r3, =t", "print r3", "halt", "section data", "byte 9", "t: byte 200"), nil, []int32{200, 33}, 300},
		{lines("in r1", "in r2", "zset z0, r1, r2", "zmul z0, z0", "zre r0, z0", "zim r1, z0", "print r1", "halt"), []int32{3, 4}, []int32{24}, -7},
		{lines("in r1", "lis r2, 5", "stm r2, r1", "ldm r0, r2", "halt"), []int32{-9}, nil, -9},
		{lines("li r1, f", "jr r1", "trap 1", "f: lis r0, 3", "halt"), nil, nil, 3},
		{"nop\nglobal m\nm: lis r1, 4\ncall n\nhalt", nil, nil, 0},
	} {
		srcs := []string{c.src}
		if strings.Contains(c.src, "global") {
			srcs, c.want, c.value = append(srcs, "global n\nn: print r1\nldp r0, =m\nret"), []int32{4}, 1
		}
		x := begun(t, built(srcs...), c.input...)
		s := ran(t, x, 9999)
		if s.Kind != api.Halted || s.Value != c.value || s.Calls != 0 || !slices.Equal(s.Trace, c.want) {
			t.Errorf("%s: %+v, not %d, %d", short(c.src), s, c.value, c.want)
		}
	}
}

// Where the counter goes by each effect.
func TestEffects(t *testing.T) {
	for _, c := range []struct {
		code  string
		fuel  int
		input []int32
		want  vm.State
	}{
		// Next
		{"00", 1, nil, running(1, 1)},
		{"30 01 05", 1, nil, running(3, 1)},
		{"32 01 05 00 00 00", 1, nil, running(6, 1)},
		{"46 01 05", 1, nil, running(8, 1)},
		{"49 01 05", 1, nil, running(3, 1)},
		{"26 00 00", 1, nil, running(3, 1)},
		// Go
		{"40 00", 1, nil, running(2, 1)},
		{"40 7f", 1, nil, running(129, 1)},
		{"41 ff 7f", 1, nil, running(3+32767, 1)},
		{"42 ff ff ff 7f", 1, nil, running(5+most, 1)},
		{"40 fe", 1, nil, running(0, 1)},
		{"40 fd", 1, nil, running(all-1, 1)},
		{"40 80", 1, nil, running(all-126, 1)},
		{"41 00 80", 1, nil, running(all-32765, 1)},
		{"42 00 00 00 80", 1, nil, running(1<<31+5, 1)},
		{"47 01 00 80", 1, nil, running(all-32764, 1)},
		{"48 01 00 00 00 80", 1, nil, running(1<<31+6, 1)},
		{"04 01 49 01 7f", 2, []int32{least}, running(132, 2)},
		{"04 01 46 01 7f", 2, []int32{1}, running(5, 2)},
		{"04 01 4a 01 ff 7f", 2, []int32{1}, running(6+32767, 2)},
		{"04 01 4b 01 fa ff ff ff", 2, []int32{1}, running(2, 2)},
		{"00 00 00 40 fb", 4, nil, running(0, 4)},
		// Call
		{"43 05", 1, nil, calling(running(7, 1), 1)},
		{"44 05 00", 1, nil, calling(running(8, 1), 1)},
		{"45 05 00 00 00", 1, nil, calling(running(10, 1), 1)},
		{"45 00 00 00 80", 1, nil, calling(running(1<<31+5, 1), 1)},
		{"43 80", 1, nil, calling(running(all-126, 1), 1)},
		// Ret
		{"43 01 01 02", 2, nil, running(2, 2)},
		{"44 01 00 01 02", 2, nil, running(3, 2)},
		{"45 01 00 00 00 01 02", 2, nil, running(5, 2)},
		{"43 00 02", 2, nil, running(2, 2)},
		{"43 00 02", 3, nil, trapped(api.TrapCall, 3, 3)},
		// Computed
		{"04 01 07 01", 2, []int32{0}, running(0, 2)},
		{"04 01 07 01", 2, []int32{3}, running(3, 2)},
		{"04 01 07 01", 2, []int32{most}, running(most, 2)},
		{"04 01 07 01", 2, []int32{least}, running(1<<31, 2)},
		{"04 01 07 01", 2, []int32{-1}, running(all-1, 2)},
		{"04 01 07 01 00 30", 3, []int32{4}, running(5, 3)},
		// Halt
		{"01", 1, nil, halted(0, 1, 1)},
		{"04 00 01", 2, []int32{least}, halted(least, 3, 2)},
		{"04 00 01", 2, []int32{most}, halted(most, 3, 2)},
		{"04 00 01", 2, []int32{-1}, halted(-1, 3, 2)},
		{"04 01 01", 2, []int32{5}, halted(0, 3, 2)},
		// Trap
		{"31 00", 1, nil, trapped(100, 2, 1)},
		{"31 ff", 1, nil, trapped(355, 2, 1)},
		{"14 12", 1, nil, trapped(api.TrapDiv, 2, 1)},
		{"1c 12", 1, nil, trapped(api.TrapMem, 2, 1)},
		{"06 01", 1, nil, trapped(api.TrapStack, 2, 1)},
		{"02", 1, nil, trapped(api.TrapCall, 1, 1)},
		{"04 01", 1, nil, trapped(api.TrapInput, 2, 1)},
		{"04 00 26 00 00 23 00 23 00 23 00 24 10", 6, []int32{most}, trapped(api.TrapWhole, 13, 6)},
		{"", 1, nil, trapped(api.TrapCode, 0, 1)},
	} {
		x := over(t, c.code, c.input...)
		comes(t, x, c.fuel, c.want)
		b := octets(c.code)
		agrees(t, b, len(b), len(b), c.input, slices.Repeat([]int{1}, c.fuel+3)...)
	}
}

// Where no instruction can be done the run ends there, and nothing else is to be seen.
func TestTrapCode(t *testing.T) {
	for _, c := range []struct {
		name, code string
		pc, steps  int
	}{
		{"the end", "00", 1, 2},
		{"behind the end", "40 00", 2, 2},
		{"one behind the end", "40 01", 3, 2},
		{"far behind the end", "42 ff ff ff 7f", 5 + most, 2},
		{"below 0", "00 40 fc", all - 1, 3},
		{"far below 0", "42 00 00 00 80", 1<<31 + 5, 2},
		{"no operation", "00 00 ff", 2, 3},
		{"no operation", "0c", 0, 1},
		{"no operation", "27", 0, 1},
		{"no operation", "34", 0, 1},
		{"no operation", "4c", 0, 1},
		{"the bytes end", "00 03", 1, 2},
		{"the bytes end", "32 01 00 00 00", 0, 1},
		{"the bytes end", "40", 0, 1},
		{"the bytes end", "48 01 00 00 00", 0, 1},
		{"the bytes end", "33 01 00", 0, 1},
		{"no register", "03 08", 0, 1},
		{"no register", "10 18", 0, 1},
		{"no register", "0a 04", 0, 1},
		{"no register", "00 26 01 83", 1, 2},
		{"no form", "33 00 00 10", 0, 1},
		{"no word", "33 00 00 00", 0, 1},
		{"within an instruction", "40 01 01 ff 00", 3, 2},
	} {
		x := over(t, c.code)
		comes(t, x, 99, trapped(api.TrapCode, c.pc, c.steps))
		holds(t, x)
		comes(t, x, 99, trapped(api.TrapCode, c.pc, c.steps))
		// Bytes behind the code's end are none of its own.
		b := append(octets(c.code), make([]byte, 40)...)
		code := len(octets(c.code))
		comes(t, raw(t, b, code, code), 99, trapped(api.TrapCode, c.pc, c.steps))
		comes(t, raw(t, b, code, len(b)), 99, trapped(api.TrapCode, c.pc, c.steps))
	}
}

// A load's word: four bytes, of which the last one may be the code's last byte.
func TestLoads(t *testing.T) {
	for _, c := range []struct {
		code string
		far  int
		want int32
		ok   bool
	}{
		{"33 03 00 00 01 02 03 04", 0, 0x04030201, true},
		{"33 03 00 00 ff ff ff ff", 0, -1, true},
		{"33 03 00 00 00 00 00 80", 0, least, true},
		{"33 03 00 00 fe ff ff 7f", 0, most - 1, true},
		{"33 03 01 00 00 09 08 07 86", 0, -0x79f8f7f7, true},
		{"33 03 04 00 01 00 00 00 05 06 07 08", 0, 0x08070605, true},
		{"33 03 00 00 01 02 03", 0, 0, false},
		{"33 03 00 00 01", 0, 0, false},
		{"33 03 00 00", 0, 0, false},
		{"33 03 01 00 00 09 08 07", 0, 0, false},
		{"33 03 05 00 01 02 03 04", 0, 0, false},
		{"33 03 04 00 01 02 03 04", 0, 0, false},
		{"33 03 03 00 01 02 03 04", 0, 0, false},
		{"33 03 09 00 01 02 03 04", 0, 0, false},
		{"33 03 ff 0f 01x4095 05 00 00 00", 0, 5, true},
		{"33 03 ff 0f 01x4095 05 00 00", 0, 0, false},
		{"33 03 ff 0f", 0, 0, false},
	} {
		for _, ahead := range []int{0, 1, 300} {
			b := slices.Concat(make([]byte, ahead), octets(c.code))
			want := trapped(api.TrapCode, ahead, ahead+1)
			if c.ok {
				want = running(ahead+4, ahead+1)
			}
			x := raw(t, b, len(b), len(b))
			comes(t, x, ahead+1, want)
			holds(t, x, 0, 0, 0, c.want)
			// Bytes behind the code's end do not help.
			more := append(slices.Clone(b), 1, 2, 3, 4, 5, 6, 7, 8, 9)
			for _, start := range []int{len(b), len(b) + 1, len(more)} {
				y := raw(t, more, len(b), start)
				comes(t, y, ahead+1, want)
				holds(t, y, 0, 0, 0, c.want)
			}
		}
	}
}

// A load changes nothing where its word does not lie below the code's end.
func TestRefusedLoad(t *testing.T) {
	x := over(t, "30 03 05 05 03 03 03 33 03 01 00 00 00 00")
	comes(t, x, 9, printing(trapped(api.TrapCode, 7, 4), 5))
	holds(t, x, 0, 0, 0, 5)
	if x.Depth() != 1 {
		t.Errorf("%d entries", x.Depth())
	}
}

func TestCalls(t *testing.T) {
	// So many calls within one another, and back: r1 tells how many behind the first one.
	src := lines("in r1", "call f", "print r1", "halt", "f: jz r1, e", "lis r2, -1", "add r1, r2", "call f", "lis r2, 1", "add r1, r2", "e: ret")
	for _, n := range []int32{0, 1, 2, 100, 254, 255} {
		s := ran(t, begun(t, built(src), n), 1<<14)
		if s.Kind != api.Halted || s.Calls != 0 || !slices.Equal(s.Trace, []int32{n}) {
			t.Errorf("%d within one another: %+v", n, s)
		}
	}
	for _, n := range []int32{256, 257, 1000, -1} {
		m := built(src)
		x := begun(t, m, n)
		s := ran(t, x, 1<<14)
		// in, call, and then jz, lis, add, call for each of the others: the 257th call ends it.
		want := calling(trapped(api.TrapCall, 2+2+2+1+(2+1)+3+2+2, 2+4*256), 256)
		if !same(s, want) || x.Reg(1) != n-256 {
			t.Errorf("%d within one another: %+v, not %+v; r1 %d", n, s, want, x.Reg(1))
		}
	}
	// As many once more, when they have come back.
	s := ran(t, begun(t, built(lines("lis r3, 9", "lis r4, -1", "g: li r1, 255", "call f", "print r1", "add r3, r4", "jnz r3, g", "halt",
		"f: jz r1, e", "lis r2, -1", "add r1, r2", "call f", "lis r2, 1", "add r1, r2", "e: ret"))), 1<<15)
	if s.Kind != api.Halted || s.Calls != 0 || !slices.Equal(s.Trace, slices.Repeat([]int32{255}, 9)) {
		t.Errorf("nine times: %+v", s)
	}
}

// The calls come back to behind the last one of them, in their order.
func TestCallsComeBackInOrder(t *testing.T) {
	src := lines("call a", "lis r1, 1", "print r1", "halt", "a: call b", "lis r1, 2", "print r1", "ret", "b: call c", "lis r1, 3", "print r1", "call c", "ret", "c: lis r1, 4", "print r1", "ret")
	x := begun(t, built(src))
	for n, calls := range []int{0, 1, 2, 3, 3, 3, 2, 2, 2, 3, 3, 3, 2, 1, 1, 1, 0, 0, 0, 0} {
		if s := x.State(); s.Calls != calls || s.Steps != n {
			t.Errorf("behind %d: %+v, not %d", n, s, calls)
		}
		ran(t, x, 1)
	}
	if s := x.State(); s.Kind != api.Halted || s.Calls != 0 || !slices.Equal(s.Trace, []int32{4, 3, 4, 2, 1}) {
		t.Errorf("%+v", s)
	}
}

// The stack is none of the calls' business.
func TestStackAndCallsAreTwo(t *testing.T) {
	x := begun(t, built(lines("a: push r1", "call a")))
	comes(t, x, 999, calling(trapped(api.TrapStack, 2, 513), 256))
	if x.Depth() != 256 {
		t.Errorf("%d entries", x.Depth())
	}
	x = begun(t, built(lines("call a", "a: call b", "b: pop r1")))
	comes(t, x, 9, calling(trapped(api.TrapStack, 6, 3), 2))
	x = begun(t, built(lines("push r1", "ret")))
	comes(t, x, 9, trapped(api.TrapCall, 3, 2))
	if x.Depth() != 1 {
		t.Errorf("%d entries", x.Depth())
	}
}

// A run can go on within an instruction.
func TestWithinAnInstruction(t *testing.T) {
	// lis r1, 7; jr r1; trap 1, whose 1 is halt.
	comes(t, over(t, "32 01 09 00 00 00 07 01 31 01"), 9, halted(0, 10, 3))
	// jmp by -1: its own number, ff, is none.
	comes(t, over(t, "40 ff"), 9, trapped(api.TrapCode, 1, 2))
	// li r0, whose number is lis r0, 9 and a halt; a jump comes to stand there.
	comes(t, over(t, "40 02 32 00 30 00 09 01"), 9, halted(9, 8, 3))
}

// P19.3

func TestStateWhereItEnded(t *testing.T) {
	for _, c := range []struct {
		src   string
		input []int32
		want  vm.State
	}{
		{lines("nop", "halt", "nop"), nil, halted(0, 2, 2)},
		{lines("lis r0, -5", "print r0", "call f", "f: halt"), nil, calling(printing(halted(-5, 8, 4), -5), 1)},
		{lines("nop", "trap 3", "nop"), nil, trapped(103, 3, 2)},
		{lines("nop", "div r1, r2", "nop"), nil, trapped(api.TrapDiv, 3, 2)},
		{lines("call f", "f: nop", "in r1"), nil, calling(trapped(api.TrapInput, 5, 3), 1)},
		{lines("in r1", "print r1", "in r2"), []int32{8}, printing(trapped(api.TrapInput, 6, 3), 8)},
		{lines("nop", "ret", "nop"), nil, trapped(api.TrapCall, 2, 2)},
		{lines("a: nop", "call a"), nil, calling(trapped(api.TrapCall, 3, 514), 256)},
		{lines("nop", "pool", "nop"), nil, running(2, 2)},
		{lines("call f", "f: ldp r1, =5"), nil, calling(trapped(api.TrapCode, 6, 3), 1)},
		{lines("jmp x", "section data", "x: byte 1"), nil, trapped(api.TrapCode, 16, 2)},
		{lines("jmp 0-4"), nil, trapped(api.TrapCode, all-4, 2)},
		{lines("nop", "align 8", "nop"), nil, running(9, 9)},
	} {
		x := begun(t, built(c.src), c.input...)
		fuel := 9999
		if c.want.Kind == api.Running {
			fuel = c.want.Steps
		}
		comes(t, x, fuel, c.want)
	}
}

// Value is 0 while Running, whatever r0 is.
func TestValueWhileRunning(t *testing.T) {
	x := over(t, "30 00 09 03 00 40 fc")
	for range 20 {
		if s := ran(t, x, 1); s.Kind != api.Running || s.Value != 0 {
			t.Errorf("%+v", s)
		}
	}
}

// What a run prints is told behind each step.
func TestTraceGrows(t *testing.T) {
	x := begun(t, built(lines("lis r1, 1", "a: print r1", "add r1, r1", "jmp a")))
	var want []int32
	ran(t, x, 1)
	for n := range 31 {
		want = append(want, 1<<n)
		s := ran(t, x, 1)
		if !slices.Equal(s.Trace, want) {
			t.Fatalf("%v, not %v", s.Trace, want)
		}
		ran(t, x, 2)
	}
}

// P19.4

func TestParts(t *testing.T) {
	d := drawer{rand.New(rand.NewSource(2))}
	for range 300 {
		m := built(d.source())
		whole := begun(t, m, 3, 0, -1)
		x := begun(t, m, 3, 0, -1)
		sum := 0
		for range 1 + d.Intn(6) {
			fuel := []int{0, 1, 2, d.Intn(10), d.Intn(300)}[d.Intn(5)]
			sum += fuel
			ran(t, x, fuel)
		}
		if a, b := x.State(), ran(t, whole, sum); !same(a, b) || tells(x) != tells(whole) {
			t.Fatalf("by parts %s, not %s", short(a), short(b))
		}
	}
}

func TestWhatHasEndedStays(t *testing.T) {
	for _, src := range []string{"halt", "trap 0", "ret", "", "lis r0, 3\nhalt\na: jmp a", "a: call a", "a: print r1\njmp a", "pop r1\nhalt", "ldp r1, =3", "in r1\nin r1\nhalt", "jmp 0-9"} {
		x := begun(t, built(src), 5)
		s := ran(t, x, 1<<15)
		if s.Kind == api.Running {
			t.Fatalf("%s: %s", short(src), short(s))
		}
		before := tells(x)
		for _, fuel := range []int{0, 1, 2, 1000, api.MaxFuel} {
			comes(t, x, fuel, s)
		}
		if got := tells(x); got != before {
			t.Errorf("%s: %s has become %s", short(src), short(before), short(got))
		}
	}
}

// The model.

func TestDrawnPrograms(t *testing.T) {
	d := drawer{rand.New(rand.NewSource(3))}
	ends := map[[2]int]int{}
	for range 1500 {
		m := built(d.source())
		l := m.Layout()
		var parts []int
		for range 1 + d.Intn(30) {
			parts = append(parts, d.Intn(4))
		}
		s := agrees(t, m.Bytes(), l.Code, l.Start, []int32{3, 0, -1, 70000}, append(parts, 500)...)
		if s.Kind == api.Halted {
			s.Value = 0
		}
		ends[[2]int{s.Kind, s.Value}]++
	}
	// All of these are met.
	for _, value := range []int{api.TrapCode, api.TrapDiv, api.TrapMem, api.TrapStack, api.TrapCall, api.TrapInput, api.TrapOwn + 7} {
		if ends[[2]int{api.Trapped, value}] == 0 {
			t.Errorf("no run has come to the trap %d: %v", value, ends)
		}
	}
	if ends[[2]int{api.Running}] == 0 || ends[[2]int{api.Halted}] == 0 {
		t.Errorf("%v", ends)
	}
}

func TestDrawnBytes(t *testing.T) {
	d := drawer{rand.New(rand.NewSource(4))}
	for range 20000 {
		b := d.bytes()
		code := len(b) - d.Intn(min(len(b), 4)+1)
		start := code + d.Intn(len(b)-code+1)
		agrees(t, b, code, start, []int32{int32(start), 1, -1}, 1, 1, 1, 1, d.Intn(5), d.Intn(5), 60)
	}
}

// All first bytes, with some behind them, at the code's end and ahead of it.
func TestAllFirstBytes(t *testing.T) {
	for first := range 256 {
		for _, rest := range []string{"", "00", "01", "12", "08", "80", "07", "00 00", "12 00", "01 ff 0f", "01 00 10", "03 00 00", "01 02 03 04 05", "00 00 00 00 00 01 01 01", "83 00 00 00"} {
			b := append([]byte{byte(first)}, octets(rest)...)
			for code := range len(b) + 1 {
				agrees(t, b, code, code, []int32{4}, 1, 1, 1, 1, 5)
				agrees(t, b, code, len(b), []int32{4}, 1, 1, 1, 1, 5)
			}
		}
	}
}

// All displacements of one byte, of each span instruction.
func TestAllShortDisplacements(t *testing.T) {
	for _, op := range []byte{0x40, 0x43, 0x46, 0x49} {
		for n := range 256 {
			b := slices.Repeat([]byte{0}, 300)
			if op < 0x46 {
				copy(b[140:], []byte{op, byte(n)})
			} else {
				copy(b[140:], []byte{op, 0, byte(n)})
			}
			agrees(t, b, 300, 300, nil, 140, 1, 1, 100, 200, 500)
		}
	}
}

// The Cpu is embedded: its methods are the machine's.

func TestTheCpuIsTheMachines(t *testing.T) {
	x := begun(t, built(lines("a: print r1", "pop r2", "print r2", "jmp a")))
	for _, i := range []api.Inst{{Op: 36, A: 1, N: 5}, {Op: 6, A: 1}, {Op: 36, A: 1, N: 9}} {
		if e := x.Do(i, 0, nil, 0); e != (cpu.Effect{}) {
			t.Errorf("%+v: %+v", i, e)
		}
	}
	if x.Depth() != 1 || x.Reg(1) != 9 || x.Reg(8) != 0 || x.Reg(-1) != 0 {
		t.Errorf("%d entries, r1 %d", x.Depth(), x.Reg(1))
	}
	comes(t, x, 9, printing(trapped(api.TrapStack, 4, 6), 9, 5, 9))
	// What is done beside the run is none of its steps, and does not move it.
	for _, i := range []api.Inst{{Op: 2}, {Op: 3}, {Op: 37}, {Op: 40, N: 5, Form: 1}, {}} {
		x.Do(i, 0, nil, 0)
	}
	comes(t, x, 9, printing(trapped(api.TrapStack, 4, 6), 9, 5, 9))
	var also interface {
		Do(i api.Inst, word int32, mem []byte, from int) cpu.Effect
		Reg(n int) int32
		Trace() []int32
		Depth() int
	} = x
	if s := fmt.Sprint(also.Trace(), also.Depth(), also.Reg(2)); s != "[9 5 9] 0 5" {
		t.Error(s)
	}
}
