package cpu_test

import (
	"runtime"
	"slices"
	"sync"
	"testing"
	"weak"

	"spandrel/api"
	"spandrel/cpu"
)

// R2: what is handed in is not changed and not kept, and answers are new memory.

// scribble writes over l, its room too.
func scribble[T int32 | byte](l []T) {
	l = l[:cap(l)]
	for i := range l {
		l[i] = 77
	}
}

// busy is a run in which everything of a Cpu is used.
const busy = "in r1; lis r2, -1; push r1; push r2; print r1; print r2; print r1; stm r1, r2; zset z1, r1, r2; zmul z1, z1; in r3; pop r4"

func TestTheInputStays(t *testing.T) {
	room := []int32{5, 6, 7, 99, -1}
	x := begun(t, room[:3]...)
	direct, why := cpu.New(room[:3])
	if why != api.OK {
		t.Fatal(why)
	}
	for _, c := range []*cpu.Cpu{x, direct} {
		goesOn(t, c, "in r1; in r2; in r3; push r1; print r1; stm r1, r1")
		for range 3 {
			if e := does(c, "in r1"); e != traps(api.TrapInput) {
				t.Errorf("what lies behind the input is read: %+v, %d", e, c.Reg(1))
			}
		}
	}
	if !slices.Equal(room, []int32{5, 6, 7, 99, -1}) {
		t.Errorf("the input has become %v", room)
	}
}

func TestTheInputIsNotKept(t *testing.T) {
	input := []int32{5, 6, 7}
	x, why := cpu.New(input)
	if why != api.OK {
		t.Fatal(why)
	}
	goesOn(t, x, "in r1")
	scribble(input)
	goesOn(t, x, "in r2; in r3")
	holds(t, x, 0, 5, 6, 7)
	// Two of one input read it each for itself.
	a, _ := cpu.New(input)
	b, _ := cpu.New(input)
	goesOn(t, a, "in r1; in r1; in r1")
	goesOn(t, b, "in r1; in r1; in r1")
}

func TestTheMemoryStays(t *testing.T) {
	all := []byte{1, 2, 3, 4, 5, 6, 7, 8}
	mem := all[2:6]
	x := begun(t)
	for at := range int32(12) {
		set(t, x, 2, at)
		for _, said := range []string{"ldb r1, r2", "ldw r1, r2", "stm r2, r1", "push r1"} {
			e := x.Do(inst(said), 0, mem, 4)
			inside := said == "ldb r1, r2" && at >= 4 && at < 8 || said == "ldw r1, r2" && at == 4 || said == "stm r2, r1" || said == "push r1"
			if inside != (e == cpu.Effect{}) {
				t.Errorf("%s at %d: %+v", said, at, e)
			}
		}
	}
	if !slices.Equal(all, []byte{1, 2, 3, 4, 5, 6, 7, 8}) {
		t.Errorf("the memory has become %v", all)
	}
	// The memory of each call is asked, not that of an earlier one.
	set(t, x, 2, 4)
	x.Do(inst("ldb r1, r2"), 0, mem, 4)
	mem[0] = 200
	x.Do(inst("ldb r3, r2"), 0, mem, 4)
	x.Do(inst("ldb r4, r2"), 0, []byte{9}, 4)
	if x.Reg(1) != 3 || x.Reg(3) != 200 || x.Reg(4) != 9 {
		t.Errorf("%d, %d, %d", x.Reg(1), x.Reg(3), x.Reg(4))
	}
	if e := x.Do(inst("ldb r5, r2"), 0, nil, 4); e != traps(api.TrapMem) {
		t.Errorf("%+v", e)
	}
}

func TestTracesAreNewMemory(t *testing.T) {
	x := begun(t, 5, 6)
	goesOn(t, x, busy)
	first, second := x.Trace(), x.Trace()
	scribble(first)
	_ = append(x.Trace(), 77, 77)
	want := []int32{5, -1, 5}
	if !slices.Equal(second, want) || !slices.Equal(x.Trace(), want) {
		t.Errorf("%v, %v", second, x.Trace())
	}
	goesOn(t, x, "print r3")
	if !slices.Equal(second, want) || !slices.Equal(x.Trace(), append(want, 6)) {
		t.Errorf("%v, %v", second, x.Trace())
	}
	// Room behind an answer is new, too: what is printed later does not come to lie in it.
	for range 100 {
		l := x.Trace()
		room := l[len(l):cap(l)]
		was := slices.Clone(room)
		goesOn(t, x, "print r2")
		if !slices.Equal(room, was) {
			t.Fatalf("a print came to lie in the room behind an answer: %v", room)
		}
		scribble(l)
	}
	if l := x.Trace(); len(l) != 104 || slices.Contains(l, 77) {
		t.Errorf("%v", l)
	}
}

// held answers a Cpu of an input that nobody else holds, and whether that, the memory, or another Cpu is still held.
func held() (*cpu.Cpu, func() (input, mem, other bool)) {
	// With so much room that no other small thing can lie beside them and be held with them.
	input, mem := make([]int32, 100, 200), make([]byte, 300)
	x, _ := cpu.New(input)
	x.Do(inst("ldw r1, r2"), 0, mem, 0)
	x.Do(inst("in r1"), 0, mem, 0)
	y, _ := cpu.New(nil)
	y.Do(inst("print r1"), 0, nil, 0)
	a, b, c := weak.Make(&input[0]), weak.Make(&mem[0]), weak.Make(y)
	return x, func() (bool, bool, bool) { return a.Value() != nil, b.Value() != nil, c.Value() != nil }
}

func TestNothingIsKept(t *testing.T) {
	x, isHeld := held()
	runtime.GC()
	runtime.GC()
	if input, mem, other := isHeld(); input || mem || other {
		t.Errorf("the input is held: %v; the memory: %v; another Cpu: %v", input, mem, other)
	}
	goesOn(t, x, "in r1; in r2")
}

// What is done to one Cpu, or refused, is not to be seen of another one.
func TestCpusDoNotHangOnEachOther(t *testing.T) {
	alone := begun(t, 5, 6)
	goesOn(t, alone, busy)
	want := drained(alone)
	x, y := begun(t, 5, 6), begun(t, 9, 8, 7)
	cpu.New(make([]int32, api.MaxInput+1))
	goesOn(t, y, busy)
	goesOn(t, y, "zadd z1, z1; push r2; print r4")
	goesOn(t, x, busy)
	y.Do(api.Inst{}, 0, nil, 0)
	drained(y)
	if got := drained(x); got != want {
		t.Errorf("%s, not %s", short(got), short(want))
	}
}

// What only tells something changes nothing.
func TestAskingChangesNothing(t *testing.T) {
	x, y := begun(t, 5, 6, 7), begun(t, 5, 6, 7)
	goesOn(t, x, busy)
	goesOn(t, y, busy)
	for n := -2; n < 12; n++ {
		x.Reg(n)
		x.Trace()
		x.Depth()
	}
	if drained(x) != drained(y) {
		t.Error("asking has changed something")
	}
}

// Each in a goroutine of its own.
func TestManyCpus(t *testing.T) {
	alone := begun(t, 5, 6)
	goesOn(t, alone, busy)
	want := drained(alone)
	var wait sync.WaitGroup
	got := make([]string, 8)
	for n := range got {
		wait.Add(1)
		go func() {
			defer wait.Done()
			for range 5 {
				c, _ := cpu.New([]int32{5, 6})
				does(c, busy)
				got[n] = drained(c)
			}
		}()
	}
	wait.Wait()
	for _, s := range got {
		if s != want {
			t.Errorf("%s, not %s", short(s), short(want))
		}
	}
}
