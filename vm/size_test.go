package vm_test

import (
	"bytes"
	"slices"
	"testing"

	"spandrel/api"
	"spandrel/vm"
)

// As much code, memory, fuel, prints and input as there may be.

// As many instructions as one call may do, one behind the other.
func TestMuchCode(t *testing.T) {
	t.Parallel()
	b := make([]byte, api.MaxFuel+5)
	x := raw(t, b, len(b), len(b))
	comes(t, x, api.MaxFuel, running(api.MaxFuel, api.MaxFuel))
	comes(t, x, 5, running(api.MaxFuel+5, api.MaxFuel+5))
	comes(t, x, api.MaxFuel, trapped(api.TrapCode, api.MaxFuel+5, api.MaxFuel+6))
}

// More fuel than one call takes, by several.
func TestMuchFuel(t *testing.T) {
	t.Parallel()
	x := begun(t, built(lines("lis r2, 1", "a: add r1, r2", "jmp a")))
	comes(t, x, 1, running(3, 1))
	for n := range 3 {
		comes(t, x, api.MaxFuel, running(3, 1+(n+1)*api.MaxFuel))
		holds(t, x, 0, int32(n+1)*api.MaxFuel/2, 1)
	}
	// One by one.
	for n := range 1 << 15 {
		if s, why := x.Run(1); why != api.OK || s.Steps != 2+n+3*api.MaxFuel {
			t.Fatalf("%+v, %v", s, why)
		}
	}
}

// 64 units, whose image is as long as it may be but for fewer bytes than an instruction has.
func TestFullImage(t *testing.T) {
	t.Parallel()
	li := api.Item{Kind: api.Code, Inst: api.Inst{Op: 38, A: 3}, E: api.Lin{Const: 1 << 31}}
	u := api.Unit{Text: slices.Repeat([]api.Item{li}, api.MaxImage/64/6)}
	m := imageOf(program(slices.Repeat([]api.Unit{u}, 64)...))
	n := api.MaxImage / 64 / 6 * 64
	x := begun(t, m)
	comes(t, x, n-1, running(6*n-6, n-1))
	comes(t, x, 9, trapped(api.TrapCode, 6*n, n+1))
	holds(t, x, 0, 0, 0, -1<<31)
}

// An image most of which is data: its last bytes are read.
func TestFullMemory(t *testing.T) {
	t.Parallel()
	m := built(lines("in r1", "ldw r2, r1", "print r2", "jmp 0", "section data", "space 1048556", "word -2"))
	if n := len(m.Bytes()); n != api.MaxImage {
		t.Fatalf("%d bytes", n)
	}
	x := begun(t, m, 16, api.MaxImage-8, api.MaxImage-4, api.MaxImage-5, api.MaxImage-3)
	comes(t, x, 99, printing(trapped(api.TrapMem, 4, 18), 0, 0, -2, -512))
}

func TestFullTrace(t *testing.T) {
	t.Parallel()
	var want []int32
	for n := range int32(api.MaxTrace) {
		want = append(want, n)
	}
	x := begun(t, built(lines("lis r2, 1", "a: print r1", "add r1, r2", "jmp a")))
	comes(t, x, 1+3*api.MaxTrace, printing(running(3, 1+3*api.MaxTrace), want...))
	comes(t, x, 9, printing(trapped(api.TrapTrace, 5, 2+3*api.MaxTrace), want...))
}

func TestFullInput(t *testing.T) {
	t.Parallel()
	input := make([]int32, api.MaxInput)
	sum := int32(0)
	for n := range input {
		input[n] = int32(n*n*n) - 9
		sum += input[n]
	}
	x := begun(t, built(lines("a: in r1", "add r0, r1", "jmp a")), input...)
	comes(t, x, api.MaxFuel, trapped(api.TrapInput, 2, 3*api.MaxInput+1))
	holds(t, x, sum, input[api.MaxInput-1])
}

// Bytes that are no code, a great many of them.
func TestManyBytes(t *testing.T) {
	t.Parallel()
	b := bytes.Repeat([]byte{0xff}, 4*api.MaxImage)
	// Far ahead, by four bytes, and a halt there.
	copy(b, octets("42 00 00 30 00"))
	b[5+0x300000] = 1
	x := raw(t, b, len(b), len(b))
	comes(t, x, 9, halted(0, 6+0x300000, 2))
	if x, why := vm.Raw(b, len(b), len(b)+1, nil); x != nil || why != api.ErrArg {
		t.Errorf("%v", why)
	}
}
