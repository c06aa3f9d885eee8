package fit_test

import (
	"fmt"
	"runtime"
	"slices"
	"sync"
	"testing"
	"weak"

	"spandrel/api"
	"spandrel/fit"
	"spandrel/link"
)

// R2: what is handed in is not changed and not kept, and answers are new memory.

func samples() []*link.Program {
	return []*link.Program{
		linked(""),
		linked("", "nop", ""),
		linked("a: jmp a"),
		linked(lines("jmp b", fill(130), "b: halt")),
		linked(lines("a: jmp b", fill(125), "jmp a", "b: halt")),
		linked(lines("a: jmp a", "jmp b", fill(125), "align 4", "b:")),
		linked(lines("a: jmp a", "jz r1, a+130", "call a", "jmp a", "jmp a", "jmp a", "jmp 70000", "jnz r1, a")),
		linked(
			lines("a: ldp r1, =e+a", "call b", "equ e, b-1", "global a", "section data", "x: word a"),
			"pool",
			lines("b: ldp r1, =f", fill(122), "pool", "align 16", "jnz r2, f", "jmp a", "jz r1, 70000", "equ f, a+b+1", "global b", "global f", "section data", "word f, b", "space 9"),
		),
	}
}

// says tells all that p answers.
func says(p *link.Program) string {
	s := fmt.Sprintf("%d %d %+v", p.Units(), p.Spans(), p.Labels())
	for n := range p.Units() {
		s += fmt.Sprintf("%+v %+v", p.Items(n, text), p.Items(n, data))
	}
	return s
}

// scribble writes over l, its room too.
func scribble(l []int) {
	l = l[:cap(l)]
	for i := range l {
		l[i] = 77
	}
}

func TestWhatIsHandedInStays(t *testing.T) {
	for _, p := range samples() {
		before := says(p)
		for _, forms := range [][]int{nil, same(1, p.Spans()), same(2, p.Spans()), same(4, p.Spans()), same(3, p.Spans()), same(1, p.Spans()+1)} {
			// With room behind, which is neither read nor written.
			given := append(slices.Clone(forms), 4, 1, 99)[:len(forms)]
			fit.Fits(p, given)
			fit.First(p, given)
			if !slices.Equal(given, forms) || !slices.Equal(given[len(given):len(given)+3], []int{4, 1, 99}) {
				t.Errorf("%v has become %v with %v behind", forms, given, given[len(given):len(given)+3])
			}
			scribble(given)
		}
		fit.Count(p)
		forms, _, _ := fit.Least(p)
		scribble(forms)
		if says(p) != before {
			t.Errorf("%s has become %s", brief(before), brief(says(p)))
		}
		if p.Spans() < 6 {
			agrees(t, p)
		}
	}
}

// What one call answers is written over; what the others answered, and answer, stays.
func TestAnswersAreNewMemory(t *testing.T) {
	for _, p := range samples() {
		first, ok, _ := fit.Least(p)
		second, _, _ := fit.Least(p)
		want := slices.Clone(first)
		scribble(first)
		_ = append(first, 77)
		if !slices.Equal(second, want) {
			t.Errorf("%v, not %v", second, want)
		}
		scribble(second)
		if ok {
			least(t, p, want...)
		} else {
			noLeast(t, p)
		}
	}
}

// asked answers what is told of a program and of forms that nobody else holds, and whether one of these is still held.
func asked() ([]int, func() bool) {
	p := linked(lines("a: jmp b", fill(125), "jmp a", "b: halt"))
	// With so much room that no other small thing can lie beside the forms and be held with them.
	forms := append(make([]int, 0, 64), 1, 2)
	program, first := weak.Make(p), weak.Make(&forms[0])
	fit.Fits(p, forms)
	fit.First(p, forms)
	fit.Count(p)
	chosen, _, _ := fit.Least(p)
	return chosen, func() bool { return program.Value() != nil || first.Value() != nil }
}

func TestNothingIsKept(t *testing.T) {
	forms, isHeld := asked()
	runtime.GC()
	runtime.GC()
	if isHeld() {
		t.Error("the program or the forms are held")
	}
	if !slices.Equal(forms, []int{2, 2}) {
		t.Errorf("%v", forms)
	}
}

// What was told in one call, or refused, does not change the next one.
func TestCallsDoNotHangOnEachOther(t *testing.T) {
	all := samples()
	type answers struct {
		count int
		forms string
		first int
	}
	ask := func(p *link.Program) answers {
		count, why := fit.Count(p)
		forms, ok, no := fit.Least(p)
		first, found := fit.First(p, same(1, p.Spans()))
		is, _ := fit.Fits(p, same(1, p.Spans()))
		if why != api.OK || no != api.OK || is == found {
			t.Fatalf("%v, %v, %v, %v", why, no, is, found)
		}
		return answers{count, fmt.Sprint(forms, ok), first}
	}
	var want []answers
	for _, p := range all {
		want = append(want, ask(p))
	}
	for n := range 3 {
		for i := range all {
			fit.Count(nil)
			fit.Least(nil)
			fit.Fits(nil, nil)
			fit.Fits(all[i], same(3, n))
			fit.First(all[i], same(1, 20))
			at := (i*(n+2) + n) % len(all)
			if got := ask(all[at]); got != want[at] {
				t.Errorf("%v, not %v", got, want[at])
			}
		}
	}
}

// R9: several goroutines may ask one program.
func TestManyAskOneProgram(t *testing.T) {
	p := linked(lines("a: jmp b", fill(120), "align 4", "jz r1, c", "jmp a", "b: halt", "c: call a"))
	want, _ := fit.Count(p)
	var wait sync.WaitGroup
	counted := make([]int, 8)
	for n := range counted {
		wait.Add(1)
		go func() {
			defer wait.Done()
			for range 20 {
				counted[n], _ = fit.Count(p)
				forms, _, _ := fit.Least(p)
				scribble(forms)
				fit.First(p, same(1, 4))
			}
		}()
	}
	wait.Wait()
	for _, n := range counted {
		if n != want {
			t.Errorf("%d, not %d", n, want)
		}
	}
	agrees(t, p)
}
