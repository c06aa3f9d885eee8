package equ_test

import (
	"slices"
	"strings"
	"testing"
	"unsafe"

	"spandrel/api"
	"spandrel/equ"
	"spandrel/expr"
)

// R2: what is handed in is not changed and not kept, and answers are new memory.

// someLists answers lists that are solved and lists with rings.
func someLists() [][]api.Equ {
	return [][]api.Equ{
		nil,
		equs("a", "0"),
		equs("a", "x"),
		equs("a", "x+2*y+1"),
		equs("a", "b", "b", "c", "c", "x+y"),
		equs("a", "2*b+1", "b", "c-3"),
		equs("a", "b+c+x", "b", "x+y", "c", "z-x"),
		equs("a", "b", "b", "x", "c", "b"),
		equs("a", "b-c", "b", "x", "c", "x"),
		equs("a", "a"),
		equs("x", "a+q", "a", "b", "b", "a+p"),
	}
}

// roomyLin answers x with room behind its terms.
func roomyLin(x api.Lin) api.Lin {
	terms := append(slices.Clone(x.Terms), api.Term{Name: "a", Coef: 7}, api.Term{Name: "room", Coef: 8})
	return api.Lin{Terms: terms[:len(x.Terms)], Const: x.Const}
}

// roomy answers l with room behind each of its lists; what lies there leads into a ring.
func roomy(l []api.Equ) []api.Equ {
	var out []api.Equ
	for _, q := range l {
		out = append(out, api.Equ{Name: q.Name, E: roomyLin(q.E)})
	}
	out = append(out, equs("x", "x", "y", "a", "room", "room")...)
	return out[:len(l)]
}

// whole answers a copy of all that stands in l, its room too.
func whole(l []api.Equ) []api.Equ {
	out := slices.Clone(l[:cap(l)])
	for i, q := range out {
		out[i].E.Terms = slices.Clone(q.E.Terms[:cap(q.E.Terms)])
	}
	return out
}

// copied answers a copy of l without its room.
func copied(l []api.Equ) []api.Equ {
	out := slices.Clone(l)
	for i, q := range out {
		out[i].E.Terms = slices.Clone(q.E.Terms)
	}
	return out
}

func scribbleLin(x api.Lin) {
	terms := x.Terms[:cap(x.Terms)]
	for i := range terms {
		terms[i] = api.Term{Name: "?", Coef: 99}
	}
}

// scribble writes over all that stands in l, its room too.
func scribble(l []api.Equ) {
	all := l[:cap(l)]
	for i, q := range all {
		scribbleLin(q.E)
		all[i] = api.Equ{Name: "?"}
	}
}

func TestWhatIsHandedInStays(t *testing.T) {
	x := lin("a+2*b+x+z+5")
	for _, l := range someLists() {
		want, wantAt, wantWhy := equ.Solve(l)
		wantPut, wantBack := equ.Put(x, l), equ.Cycle(l)
		given, givenX := roomy(l), roomyLin(x)
		before, beforeX := whole(given), slices.Clone(givenX.Terms[:cap(givenX.Terms)])
		got, at, why := equ.Solve(given)
		put, back := equ.Put(givenX, given), equ.Cycle(given)
		if !same(whole(given), before) || !slices.Equal(givenX.Terms[:cap(givenX.Terms)], beforeX) {
			t.Errorf("%s has become %s, or %s another one", told(before), told(whole(given)), short(x))
		}
		scribble(given)
		scribbleLin(givenX)
		if !same(got, want) || at != wantAt || why != wantWhy || !expr.Same(put, wantPut) || !slices.Equal(back, wantBack) {
			t.Errorf("%s: %s; %d, %v; %s; %v: the room is read, or an answer hangs on what was handed in", told(l), told(got), at, why, short(put), back)
		}
	}
}

func TestAnswersAreNewMemory(t *testing.T) {
	x := lin("a+2*b+x+z+5")
	for _, l := range someLists() {
		before := whole(l)
		first, _, _ := equ.Solve(l)
		second, at, why := equ.Solve(l)
		put, back := equ.Put(x, l), equ.Cycle(l)
		want, wantPut, wantBack := copied(second), api.Lin{Terms: slices.Clone(put.Terms), Const: put.Const}, slices.Clone(back)
		scribble(first)
		scribbleLin(equ.Put(x, l))
		clear(equ.Cycle(l))
		third, thirdAt, thirdWhy := equ.Solve(l)
		if !same(second, want) || !same(third, second) || thirdAt != at || thirdWhy != why {
			t.Errorf("%s: %s, then %s", told(l), told(second), told(third))
		}
		if !expr.Same(put, wantPut) || !expr.Same(equ.Put(x, l), wantPut) || !slices.Equal(back, wantBack) || !slices.Equal(equ.Cycle(l), wantBack) {
			t.Errorf("%s: %s, %v", told(l), short(put), back)
		}
		if !same(whole(l), before) || !expr.Same(x, lin("a+2*b+x+z+5")) {
			t.Errorf("%s has become %s", told(before), told(l))
		}
	}
}

func TestListsOfOneAnswerShareNoMemory(t *testing.T) {
	for _, l := range someLists() {
		want, _, _ := equ.Solve(l)
		for i := range want {
			got, _, _ := equ.Solve(l)
			scribbleLin(got[i].E)
			for j, q := range got {
				if j != i && !sameEqu(q, want[j]) {
					t.Errorf("%s: the terms %d and %d share memory", told(l), i, j)
				}
			}
			// What is added behind one list is seen in no other.
			got, _, _ = equ.Solve(l)
			_ = append(got[i].E.Terms, api.Term{Name: "?", Coef: 99}, api.Term{Name: "?", Coef: 99})
			if !same(got, want) {
				t.Errorf("%s: %s: the terms %d end in those of another one", told(l), told(got), i)
			}
		}
	}
}

// names answers all texts of l.
func names(l []api.Equ) []string {
	var out []string
	for _, q := range l {
		out = append(out, q.Name)
		for _, t := range q.E.Terms {
			out = append(out, t.Name)
		}
	}
	return out
}

// A name may be cut out of a long text, which the answer must not hold on to.
func TestNamesHoldOnToNoText(t *testing.T) {
	text := strings.Repeat("first second third other ", 40)
	cut := strings.Fields(text)
	first, second, third, other := cut[0], cut[1], cut[2], cut[3]
	term := func(name string) api.Lin { return api.Lin{Terms: []api.Term{{Name: name, Coef: 1}}} }
	l := []api.Equ{{Name: first, E: term(second)}, {Name: second, E: term(third)}}
	ring := []api.Equ{{Name: first, E: term(second)}, {Name: second, E: term(first)}}
	answers := names(solved(t, l))
	answers = append(answers, equ.Cycle(ring)...)
	answers = append(answers, names([]api.Equ{{E: equ.Put(term(first), l)}, {E: equ.Put(term(other), l)}, {E: equ.Put(term(first), nil)}})...)
	from := uintptr(unsafe.Pointer(unsafe.StringData(text)))
	for _, s := range answers {
		at := uintptr(unsafe.Pointer(unsafe.StringData(s)))
		if s != "" && at >= from && at < from+uintptr(len(text)) {
			t.Errorf("%q lies within the text it was cut out of", s)
		}
	}
}

// R4: nil and empty lists mean the same.
func TestNilAndEmptyLists(t *testing.T) {
	for _, none := range [][]api.Term{nil, {}} {
		e := api.Lin{Terms: none, Const: 3}
		solves(t, []api.Equ{{Name: "a", E: e}, {Name: "b", E: lin("a+x")}}, equs("a", "3", "b", "x+3"))
		for _, l := range [][]api.Equ{nil, {}, equs("a", "1")} {
			if x := equ.Put(e, l); !expr.Same(x, lin("3")) {
				t.Errorf("Put of a number: %s", short(x))
			}
		}
	}
	for _, l := range [][]api.Equ{nil, {}} {
		if out, n, why := equ.Solve(l); len(out) != 0 || n != 0 || why != api.OK {
			t.Errorf("%v, %d, %v", out, n, why)
		}
		if back := equ.Cycle(l); len(back) != 0 {
			t.Errorf("%v", back)
		}
	}
}

// A refused call changes nothing that a later one tells.
func TestCallsDoNotHangOnEachOther(t *testing.T) {
	ring, right := equs("x", "a", "a", "b", "b", "a"), equs("x", "a", "a", "b", "b", "y+1")
	for range 3 {
		comesBack(t, ring, 1, "a", "b")
		solves(t, right, equs("x", "y+1", "a", "y+1", "b", "y+1"))
	}
}

// R1: of equs that are not right it is promised that the calls end, and no more.
func TestEqusThatAreNotRight(t *testing.T) {
	term := func(name string, coef uint32) api.Term { return api.Term{Name: name, Coef: coef} }
	lists := [][]api.Equ{
		{{}},
		{{}, {}},
		{{Name: "", E: api.Lin{Terms: []api.Term{term("", 1)}}}},
		equs("a", "1", "a", "2"),
		equs("a", "b", "a", "c", "b", "a"),
		equs("a", "a", "a", "1"),
		equs("a", "1", "a", "a"),
		equs("a", "b", "b", "1", "a", "a", "b", "b", "a", "b"),
		{{Name: "r1", E: api.Lin{Terms: []api.Term{term("r1", 1)}}}},
		{{Name: "r1", E: api.Lin{Terms: []api.Term{term("z0", 1)}}}, {Name: "z0", E: lin("x")}},
		{{Name: "a b", E: api.Lin{Terms: []api.Term{term(strings.Repeat("a", 99), 1)}}}},
		{{Name: "a", E: api.Lin{Terms: []api.Term{term("a", 0)}}}},
		{{Name: "a", E: api.Lin{Terms: []api.Term{term("b", 0)}}}, {Name: "b", E: api.Lin{Terms: []api.Term{term("a", 0)}}}},
		{{Name: "a", E: api.Lin{Terms: []api.Term{term("c", 1), term("b", 1), term("c", 1)}}}, {Name: "b", E: api.Lin{Terms: []api.Term{term("x", 1), term("x", most)}}}},
		{{Name: "a", E: api.Lin{Terms: []api.Term{term("a", 1), term("a", 1)}}}, {Name: "a", E: api.Lin{Terms: []api.Term{term("\xff", 0), {}}}}},
	}
	for _, l := range lists {
		given := roomy(l)
		before := whole(given)
		for range 3 {
			equ.Solve(given)
			equ.Cycle(given)
			for _, q := range l {
				equ.Put(q.E, given)
				equ.Put(api.Lin{Terms: []api.Term{term(q.Name, 3), term(q.Name, 0)}}, given)
			}
		}
		if !same(whole(given), before) {
			t.Errorf("%v has become %v", before, whole(given))
		}
	}
}
