package pool_test

import (
	"fmt"
	"runtime"
	"slices"
	"sync"
	"testing"
	"weak"

	"spandrel/api"
	"spandrel/link"
	"spandrel/pool"
)

// R2: what is handed in is not changed and not kept, and answers are new memory.

func somePrograms() []*link.Program {
	return []*link.Program{
		linked(""),
		linked("pool\nnop"),
		linked("ldp r1, =1"),
		linked(lines("a: ldp r1, =a", "ldp r2, =a", "ldp r3, =a+b", "pool", "b: ldp r4, =a", "ldp r5, =7", "ldp r6, =2*a-b")),
		linked(lines("a: ldp r1, =e+a", "ldp r2, =f", "equ e, b-1", "global a"), "pool", lines("b: ldp r1, =f", "ldp r1, =b", "pool", "ldp r2, =f+a", "equ f, a+b+1", "global b", "global f", "section data", "word f, b")),
	}
}

// says tells all that p answers.
func says(p *link.Program) string {
	s := fmt.Sprintf("%d %d %+v", p.Units(), p.Spans(), p.Labels())
	for n := range p.Units() {
		s += fmt.Sprintf("%+v %+v", p.Items(n, text), p.Items(n, data))
	}
	return s
}

// answers tells all that is answered of p.
func answers(p *link.Program) string {
	s := fmt.Sprintf("%+v", pool.Pools(p))
	for n := range p.Units() {
		for i := range p.Items(n, text) {
			s += fmt.Sprintf("%+v", slotOf(p, n, i))
		}
	}
	return s
}

// all answers l with its room.
func all[T any](l []T) []T {
	return l[:cap(l)]
}

func scribbleTerms(l []api.Term) {
	for i := range all(l) {
		all(l)[i] = api.Term{Name: "?", Coef: 77}
	}
}

func scribbleLiterals(l []api.Lin) {
	for i, x := range all(l) {
		scribbleTerms(x.Terms)
		all(l)[i] = api.Lin{Const: 77}
	}
}

// scribble writes over all that stands in pools, their room too.
func scribble(pools []pool.Pool) {
	for i, q := range all(pools) {
		scribbleLiterals(q.Literals)
		all(pools)[i] = pool.Pool{Unit: 77, Item: 77}
	}
}

func TestTheProgramStays(t *testing.T) {
	for _, p := range somePrograms() {
		before := says(p)
		want := answers(p)
		if says(p) != before {
			t.Errorf("%s has become %s", short(before), short(says(p)))
		}
		scribble(pool.Pools(p))
		if says(p) != before {
			t.Errorf("%s has become %s: the pools are the program's", short(before), short(says(p)))
		}
		if answers(p) != want {
			t.Errorf("%s has become %s", short(want), short(answers(p)))
		}
	}
}

func TestAnswersAreNewMemory(t *testing.T) {
	for _, p := range somePrograms() {
		want := fmt.Sprintf("%+v", pool.Pools(p))
		first, second := pool.Pools(p), pool.Pools(p)
		scribble(first)
		if got := fmt.Sprintf("%+v", second); got != want {
			t.Errorf("%s has become %s", short(want), short(got))
		}
		slices.Reverse(second)
		if got := fmt.Sprintf("%+v", pool.Pools(p)); got != want {
			t.Errorf("%s has become %s", short(want), short(got))
		}
	}
}

func TestListsOfOneAnswerShareNoMemory(t *testing.T) {
	for _, p := range somePrograms() {
		want := pool.Pools(p)
		for n := range want {
			got := pool.Pools(p)
			scribbleLiterals(got[n].Literals)
			_ = append(got[n].Literals, api.Lin{Const: 77}, api.Lin{Const: 77})
			got[n] = want[n]
			if !slices.EqualFunc(got, want, samePool) {
				t.Errorf("%s: the literals of pool %d are others' too", short(want), n)
			}
			for k := range want[n].Literals {
				got := pool.Pools(p)
				scribbleTerms(got[n].Literals[k].Terms)
				_ = append(got[n].Literals[k].Terms, api.Term{Name: "?"}, api.Term{Name: "?"})
				got[n].Literals[k] = want[n].Literals[k]
				if !slices.EqualFunc(got, want, samePool) {
					t.Errorf("%s: the terms of literal %d of pool %d are others' too", short(want), k, n)
				}
			}
		}
	}
}

// asked answers what is told of a program that nobody else holds, and whether that is still held.
func asked() ([]pool.Pool, slot, func() bool) {
	p := linked(lines("a: ldp r1, =a", "ldp r2, =a+1", "pool", "ldp r3, =5"))
	w := weak.Make(p)
	return pool.Pools(p), slotOf(p, 0, 2), func() bool { return w.Value() != nil }
}

func TestTheProgramIsNotKept(t *testing.T) {
	pools, s, isHeld := asked()
	runtime.GC()
	runtime.GC()
	if isHeld() {
		t.Error("the program is held")
	}
	if want := []pool.Pool{at(0, 3, "L0", "L0+1"), at(0, 5, "5")}; !slices.EqualFunc(pools, want, samePool) || s != (slot{0, 1, true}) {
		t.Errorf("%+v, %+v", pools, s)
	}
}

// R4: nil and empty lists mean the same.
func TestNilAndEmptyLists(t *testing.T) {
	load := func(terms []api.Term) api.Item {
		return api.Item{Kind: api.Code, Inst: api.Inst{Op: 39}, E: api.Lin{Terms: terms, Const: 3}}
	}
	p := program(api.Unit{Text: []api.Item{load(nil), load([]api.Term{})}, Data: []api.Item{}}, api.Unit{Text: []api.Item{}})
	has(t, p, at(0, 2, "3"))
}

// What was met in one call is not met in the next one.
func TestCallsDoNotHangOnEachOther(t *testing.T) {
	var want []string
	for range 3 {
		for i, p := range somePrograms() {
			pool.Pools(nil)
			slotOf(nil, 0, 0)
			slotOf(p, -1, 0)
			got := answers(p)
			if len(want) <= i {
				want = append(want, got)
			}
			if got != want[i] {
				t.Errorf("%s, then %s", short(want[i]), short(got))
			}
		}
	}
}

// R9: several goroutines may ask one program.
func TestManyAskOneProgram(t *testing.T) {
	p := somePrograms()[4]
	want := answers(p)
	var wait sync.WaitGroup
	got := make([]string, 8)
	for n := range got {
		wait.Add(1)
		go func() {
			defer wait.Done()
			for range 50 {
				scribble(pool.Pools(p))
				got[n] = answers(p)
			}
		}()
	}
	wait.Wait()
	for _, s := range got {
		if s != want {
			t.Errorf("%s, not %s", short(s), short(want))
		}
	}
}
