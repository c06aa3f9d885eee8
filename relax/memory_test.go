package relax_test

import (
	"fmt"
	"runtime"
	"slices"
	"sync"
	"testing"
	"weak"

	"spandrel/link"
	"spandrel/relax"
)

// R2: what is handed in is not changed and not kept, and answers are new memory.

func samples() []*link.Program {
	return []*link.Program{
		linked(""),
		linked("", "nop", ""),
		linked("a: jmp a"),
		linked(lines("jmp b", fill(130), "b: halt")),
		linked(slowest(4)),
		linked(
			lines("a: ldp r1, =e+a", "call b", "equ e, b-1", "global a", "section data", "x: word a"),
			"pool",
			lines("b: ldp r1, =f", fill(122), "pool", "align 16", "jnz r2, f", "jmp a", "jz r1, 70000", "equ f, a+b+1", "global b", "global f", "section data", "word f, b", "space 9"),
		),
	}
}

// says tells all that p answers.
func says(p *link.Program) string {
	s := fmt.Sprintf("%d %d %+v", p.Units(), p.Spans(), p.Labels())
	for n := range p.Units() {
		s += fmt.Sprintf("%+v %+v", p.Items(n, text), p.Items(n, data))
	}
	return s
}

// scribble writes over l, its room too.
func scribble(l []int) {
	l = l[:cap(l)]
	for i := range l {
		l[i] = 77
	}
}

func TestWhatIsHandedInStays(t *testing.T) {
	for _, p := range samples() {
		before := says(p)
		forms, _, _ := relax.Relax(p)
		scribble(forms)
		for l := range relax.Rounds(p) {
			scribble(l)
		}
		for l := range relax.Rounds(p) {
			scribble(l)
			break
		}
		if says(p) != before {
			t.Errorf("%s has become %s", short(before), short(says(p)))
		}
		agrees(t, p)
	}
}

// What one call answers is written over; what the others answered, and answer, stays.
func TestAnswersAreNewMemory(t *testing.T) {
	for _, p := range samples() {
		want := tell(p)
		last := want[len(want)-1]
		first, _, _ := relax.Relax(p)
		second, _, _ := relax.Relax(p)
		rounds := ahead(p)
		scribble(first)
		_ = append(first, 77)
		if !slices.Equal(second, last) || !sameRounds(rounds, want) {
			t.Errorf("%v and %v, not %v", second, rounds, want)
		}
		scribble(second)
		relaxes(t, p, len(want), last...)
		if got := ahead(p); !sameRounds(got, want) {
			t.Errorf("%v, not %v", got, want)
		}
	}
}

// The lists of one ranging are written over one by one, behind it and within it; the others stay.
func TestListsOfRoundsShareNoMemory(t *testing.T) {
	for _, p := range samples() {
		want := tell(p)
		for n := range want {
			got := ahead(p)
			scribble(got[n])
			_ = append(got[n], 77, 77)
			got[n] = want[n]
			if !sameRounds(got, want) {
				t.Errorf("list %d is another's, too: %v, not %v", n, got, want)
			}
			got = nil
			for l := range relax.Rounds(p) {
				got = append(got, l)
				if len(got) == n+1 {
					scribble(l)
				}
			}
			got[n] = want[n]
			if !sameRounds(got, want) {
				t.Errorf("list %d, written over, changes others: %v, not %v", n, got, want)
			}
		}
	}
}

// asked answers what is told of a program that nobody else holds, and whether that is still held.
func asked() ([]int, [][]int, func() bool) {
	p := linked(slowest(2))
	w := weak.Make(p)
	forms, _, _ := relax.Relax(p)
	for range relax.Rounds(p) {
		break
	}
	return forms, ahead(p), func() bool { return w.Value() != nil }
}

func TestTheProgramIsNotKept(t *testing.T) {
	forms, rounds, isHeld := asked()
	runtime.GC()
	runtime.GC()
	if isHeld() {
		t.Error("the program is held")
	}
	if !slices.Equal(forms, []int{4, 4}) || len(rounds) != 5 {
		t.Errorf("%v, %v", forms, rounds)
	}
}

// What was told in one call, or refused, does not change the next one.
func TestCallsDoNotHangOnEachOther(t *testing.T) {
	all := samples()
	var want [][][]int
	for _, p := range all {
		want = append(want, tell(p))
	}
	for range 3 {
		for i, p := range all {
			relax.Relax(nil)
			relax.Rounds(nil)
			for range relax.Rounds(all[(i+1)%len(all)]) {
				break
			}
			relaxes(t, p, len(want[i]), want[i][len(want[i])-1]...)
			if got := ahead(p); !sameRounds(got, want[i]) {
				t.Errorf("%v, not %v", got, want[i])
			}
		}
	}
}

// R9: several goroutines may ask one program, and range over the same rounds of it.
func TestManyAskOneProgram(t *testing.T) {
	p := linked(slowest(4))
	want := tell(p)
	all := relax.Rounds(p)
	var wait sync.WaitGroup
	got := make([][][]int, 8)
	for n := range got {
		wait.Add(1)
		go func() {
			defer wait.Done()
			for range 20 {
				got[n] = nil
				for l := range all {
					got[n] = append(got[n], slices.Clone(l))
					scribble(l)
				}
				forms, _, _ := relax.Relax(p)
				scribble(forms)
			}
		}()
	}
	wait.Wait()
	for _, l := range got {
		if !sameRounds(l, want) {
			t.Errorf("%v, not %v", l, want)
		}
	}
}
