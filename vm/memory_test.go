package vm_test

import (
	"bytes"
	"fmt"
	"runtime"
	"slices"
	"sync"
	"testing"
	"weak"

	"spandrel/api"
	"spandrel/image"
	"spandrel/vm"
)

// R2: what is handed in is not changed and not kept, and answers are new memory.

// scribble writes over l, its room too.
func scribble[T int32 | byte](l []T) {
	l = l[:cap(l)]
	for i := range l {
		l[i] = 77
	}
}

// busy is a program in which everything of a machine is used. It takes two numbers of input.
var busy = lines(
	"in r1", "print r1", "push r1", "call f", "li r4, x", "ldw r5, r4", "print r5", "ldb r6, r4", "print r6",
	"lis r2, 3", "stm r2, r1", "ldm r3, r2", "print r3", "zset z1, r1, r2", "zmul z1, z1", "zim r3, z1", "print r3",
	"in r1", "print r1", "pop r0", "halt", "f: ldp r7, =70000", "print r7", "call g", "ret", "g: push r7", "ret",
	"section data", "byte 1, 2, 3", "x: word 0x04030201",
)

// done is what busy comes to with 5 and 6.
const done = "{Kind:1 Value:70000 Pc:47 Steps:27 Calls:0 Trace:[5 70000 67305985 1 5 30 6]}"

func TestBusy(t *testing.T) {
	s := ran(t, begun(t, built(busy), 5, 6), 99)
	if got := fmt.Sprintf("%+v", s); got != done {
		t.Errorf("%s, not %s", got, done)
	}
}

// bare answers the bytes of m, its Code and its Start.
func bare(m *image.Image) ([]byte, int, int) {
	l := m.Layout()
	return m.Bytes(), l.Code, l.Start
}

// answers tells all that m answers.
func answers(m *image.Image) string {
	return fmt.Sprintf("% x %+v %v", m.Bytes(), m.Layout(), m.Forms())
}

func TestWhatIsHandedInStays(t *testing.T) {
	m := built(busy)
	b, code, start := bare(m)
	want := bytes.Clone(b)
	// With room behind, which is neither read nor written.
	rooms, input := append(bytes.Clone(b), 99, 98, 97), []int32{5, 6, 99, -1}
	before := answers(m)
	x, _ := vm.New(m, input[:2])
	y, _ := vm.Raw(rooms[:len(b)], code, start, input[:2])
	for _, x := range []*vm.Machine{x, y} {
		s := ran(t, x, 99)
		if got := fmt.Sprintf("%+v", s); got != done {
			t.Errorf("%s, not %s", got, done)
		}
		scribble(s.Trace)
	}
	if !bytes.Equal(rooms, append(want, 99, 98, 97)) || !slices.Equal(input, []int32{5, 6, 99, -1}) {
		t.Errorf("% x, %d", rooms, input)
	}
	if answers(m) != before {
		t.Errorf("%s has become %s", short(before), short(answers(m)))
	}
}

// The room behind what is handed in is no code, no memory and no input.
func TestRoomIsNotRead(t *testing.T) {
	b := octets("04 01 1c 21 03 02 01 01 01")
	for _, c := range []struct {
		length, code, start int
		input               []int32
		want                vm.State
	}{
		{4, 4, 4, []int32{4}, trapped(api.TrapMem, 4, 2)},
		{6, 6, 6, []int32{5}, trapped(api.TrapMem, 4, 2)},
		{6, 5, 5, []int32{5}, trapped(api.TrapCode, 4, 3)},
		{7, 6, 6, []int32{6}, printing(trapped(api.TrapCode, 6, 4), 1)},
		{7, 6, 6, []int32{7}, trapped(api.TrapMem, 4, 2)},
		{2, 2, 2, []int32{7}, trapped(api.TrapCode, 2, 2)},
		{1, 1, 1, []int32{7}, trapped(api.TrapCode, 0, 1)},
	} {
		room := append(slices.Clone(c.input), 8, 8, 8)
		x, why := vm.Raw(b[:c.length], c.code, c.start, room[:len(c.input)])
		if why != api.OK {
			t.Fatal(why)
		}
		comes(t, x, 9, c.want)
	}
	room := []int32{5, 6}
	x, _ := vm.New(built(busy), room[:1])
	if s := ran(t, x, 99); s.Kind != api.Trapped || s.Value != api.TrapInput {
		t.Errorf("%+v", s)
	}
}

func TestBytesAndInputAreNotKept(t *testing.T) {
	b, code, start := bare(built(busy))
	for part := range 28 {
		again, input := bytes.Clone(b), []int32{5, 6}
		x, why := vm.Raw(again, code, start, input)
		if why != api.OK {
			t.Fatal(why)
		}
		ran(t, x, part)
		scribble(again)
		scribble(input)
		if got := fmt.Sprintf("%+v", ran(t, x, 99)); got != done {
			t.Fatalf("written over behind %d: %s, not %s", part, got, done)
		}
	}
}

func TestStatesAreNewMemory(t *testing.T) {
	x := begun(t, built(busy), 5, 6)
	for range 30 {
		s, other := ran(t, x, 1), x.State()
		told := fmt.Sprintf("%+v", other)
		scribble(s.Trace)
		scribble(x.Trace())
		_ = append(x.State().Trace, 77, 77)
		if got := fmt.Sprintf("%+v", other); got != told {
			t.Fatalf("%s has become %s", told, got)
		}
		if got := fmt.Sprintf("%+v", x.State()); got != told {
			t.Fatalf("%s, not %s", got, told)
		}
	}
	if got := fmt.Sprintf("%+v", x.State()); got != done {
		t.Errorf("%s, not %s", got, done)
	}
	// Nothing comes to lie in the room behind an answer, and nothing that is told later is told in it.
	x = begun(t, built(lines("a: print r1", "jmp a")))
	for range 200 {
		s := ran(t, x, 2)
		room := s.Trace[len(s.Trace):cap(s.Trace)]
		was := slices.Clone(room)
		ran(t, x, 2)
		if !slices.Equal(room, was) {
			t.Fatalf("a print came to lie in the room behind an answer: %v", room)
		}
		scribble(s.Trace)
	}
	if l := x.Trace(); len(l) != 400 || slices.Contains(l, 77) {
		t.Errorf("%s", short(l))
	}
}

// held answers a machine over bytes that nobody else holds, and whether these, its input, its image or another machine are still held.
func held() (*vm.Machine, func() (parts, machine bool)) {
	// With so much room that no other small thing can lie beside them and be held with them.
	b, input := make([]byte, 300, 600), make([]int32, 100, 200)
	x, _ := vm.Raw(b, 200, 200, input)
	x.Run(9)
	m := built(busy)
	y, _ := vm.New(m, input)
	y.Run(9)
	first, second, third, fourth := weak.Make(&b[0]), weak.Make(&input[0]), weak.Make(m), weak.Make(y)
	return x, func() (bool, bool) {
		return first.Value() != nil || second.Value() != nil, third.Value() != nil || fourth.Value() != nil
	}
}

func TestNothingIsKept(t *testing.T) {
	x, isHeld := held()
	runtime.GC()
	runtime.GC()
	if parts, machine := isHeld(); parts || machine {
		t.Errorf("what was handed in is held: %v; an image or another machine: %v", parts, machine)
	}
	comes(t, x, 300, trapped(api.TrapCode, 200, 201))
}

// R4: nil and empty lists mean the same.
func TestNilAndEmptyLists(t *testing.T) {
	m := built("in r1")
	for _, input := range [][]int32{nil, {}, make([]int32, 0, 9)} {
		x, why := vm.New(m, input)
		if why != api.OK {
			t.Fatal(why)
		}
		comes(t, x, 9, trapped(api.TrapInput, 2, 1))
		for _, b := range [][]byte{nil, {}, make([]byte, 0, 9)} {
			x, why := vm.Raw(b, 0, 0, input)
			if why != api.OK {
				t.Fatal(why)
			}
			comes(t, x, 9, trapped(api.TrapCode, 0, 1))
		}
	}
}

// What one machine does, or refuses, is not to be seen of another one over the same image.
func TestMachinesDoNotHangOnEachOther(t *testing.T) {
	m := built(busy)
	b, code, start := bare(m)
	x, y, z := begun(t, m, 5, 6), begun(t, m, 9, 8, 7), raw(t, b, code, start, 5, 6)
	for range 30 {
		vm.New(nil, nil)
		vm.New(m, make([]int32, api.MaxInput+1))
		vm.Raw(b, code, len(b)+1, nil)
		x.Run(-1)
		ran(t, x, 1)
		ran(t, y, 2)
		y.Run(api.MaxFuel + 1)
		ran(t, z, 1)
	}
	for _, x := range []*vm.Machine{x, z, begun(t, m, 5, 6)} {
		if got := fmt.Sprintf("%+v", ran(t, x, 99)); got != done {
			t.Errorf("%s, not %s", got, done)
		}
	}
	if s := y.State(); s.Kind != api.Halted || !slices.Equal(s.Trace, []int32{9, 70000, 67305985, 1, 9, 54, 8}) {
		t.Errorf("%+v", s)
	}
}

// What only tells something changes nothing.
func TestAskingChangesNothing(t *testing.T) {
	m := built(busy)
	x, y := begun(t, m, 5, 6), begun(t, m, 5, 6)
	for range 30 {
		before := tells(x)
		x.State()
		x.Run(0)
		x.Trace()
		x.Depth()
		if got := tells(x); got != before {
			t.Fatalf("%s has become %s", before, got)
		}
		ran(t, x, 1)
		y.Run(1)
		if tells(x) != tells(y) {
			t.Fatalf("%s, not %s", tells(x), tells(y))
		}
	}
}

// R9: several goroutines may ask one image; each machine is one goroutine's.
func TestManyMachines(t *testing.T) {
	m := built(busy)
	var wait sync.WaitGroup
	got := make([]string, 8)
	for n := range got {
		wait.Add(1)
		go func() {
			defer wait.Done()
			for range 20 {
				x, _ := vm.New(m, []int32{5, 6})
				x.Run(7)
				s, _ := x.Run(99)
				got[n] = fmt.Sprintf("%+v", s)
				scribble(s.Trace)
			}
		}()
	}
	wait.Wait()
	for _, s := range got {
		if s != done {
			t.Errorf("%s, not %s", s, done)
		}
	}
}
