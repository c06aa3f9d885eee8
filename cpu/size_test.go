package cpu_test

import (
	"slices"
	"testing"

	"spandrel/api"
	"spandrel/cpu"
)

// As many prints, entries and numbers of input as there may be.

func TestFullPrints(t *testing.T) {
	x := begun(t)
	var want []int32
	for n := range int32(api.MaxTrace) {
		set(t, x, 4, n*n-7)
		goesOn(t, x, "print r4")
		want = append(want, n*n-7)
	}
	for range 3 {
		if e := does(x, "print r4"); e != traps(api.TrapTrace) {
			t.Errorf("%+v", e)
		}
	}
	if !slices.Equal(x.Trace(), want) {
		t.Errorf("%s", short(x.Trace()))
	}
	// All else goes on.
	goesOn(t, x, "push r4; lis r1, 3; stm r1, r4; ldm r2, r1")
	holds(t, x, 0, 3, 4095*4095-7, 0, 4095*4095-7)
}

func TestFullStack(t *testing.T) {
	x := begun(t)
	// A stack that was full, and then empty, takes as much again.
	for round := range int32(3) {
		for n := range int32(api.MaxStack) {
			set(t, x, 1, n*n-round)
			goesOn(t, x, "push r1")
		}
		for range 3 {
			if e := does(x, "push r2"); e != traps(api.TrapStack) || x.Depth() != api.MaxStack {
				t.Errorf("%+v, %d", e, x.Depth())
			}
		}
		goesOn(t, x, "pop r3; push r3; print r3")
		for n := int32(api.MaxStack - 1); n >= 0; n-- {
			goesOn(t, x, "pop r1")
			if x.Reg(1) != n*n-round || x.Depth() != int(n) {
				t.Fatalf("%d, %d entries", x.Reg(1), x.Depth())
			}
		}
		if e := does(x, "pop r1"); e != traps(api.TrapStack) {
			t.Errorf("%+v", e)
		}
	}
}

func TestFullInput(t *testing.T) {
	input := make([]int32, api.MaxInput)
	for n := range input {
		input[n] = int32(n*n*n) - 9
	}
	x := begun(t, input...)
	for n := range input {
		goesOn(t, x, "in r5; print r5")
		if x.Reg(5) != input[n] {
			t.Fatalf("number %d: %d", n, x.Reg(5))
		}
	}
	if e := does(x, "in r5"); e != traps(api.TrapInput) {
		t.Errorf("%+v", e)
	}
	if !slices.Equal(x.Trace(), input) {
		t.Errorf("%s", short(x.Trace()))
	}
}

// As many instructions as a machine may be given fuel for, and a memory as long as an image.
func TestManyInstructions(t *testing.T) {
	mem := make([]byte, api.MaxImage)
	for n := range mem {
		mem[n] = byte(n * 7)
	}
	x := begun(t)
	goesOn(t, x, "lis r1, 1")
	add, load, sum := inst("add r2, r1"), inst("ldb r3, r2"), inst("add r4, r3")
	want := int32(0)
	for n := range api.MaxFuel {
		e := x.Do(load, 0, mem, 0)
		f, g := x.Do(sum, 0, mem, 0), x.Do(add, 0, mem, 0)
		if e != (cpu.Effect{}) || f != e || g != e {
			t.Fatalf("%d: %+v, %+v, %+v", n, e, f, g)
		}
		want += int32(mem[n])
	}
	holds(t, x, 0, 1, api.MaxFuel, int32(mem[len(mem)-1]), want)
	if e := x.Do(load, 0, mem, 0); e != traps(api.TrapMem) {
		t.Errorf("%+v", e)
	}
}
