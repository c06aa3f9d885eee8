package equ_test

import (
	"fmt"
	"maps"
	"math/rand"
	"slices"
	"testing"

	"spandrel/api"
	"spandrel/equ"
	"spandrel/expr"
)

// The chapter's runs and examples.

func TestRuns(t *testing.T) {
	solves(t, equs("a", "2*b+1", "b", "c-3"), equs("a", "2*c-5", "b", "c-3"))
	comesBack(t, equs("x", "1", "a", "b", "b", "a"), 1, "a", "b")
	solves(t, equs("a", "a-a+b"), equs("a", "b"))
	if back := equ.Cycle(equs("x", "a", "a", "b", "b", "a")); !slices.Equal(back, []string{"a", "b"}) {
		t.Errorf("Cycle(x = a, a = b, b = a): %v", back)
	}
}

func TestExamples(t *testing.T) {
	for _, l := range [][]api.Equ{nil, {}} {
		solves(t, l, nil)
		for _, s := range []string{"0", "7", "a", "a+2*b-1"} {
			if x := equ.Put(lin(s), l); !expr.Same(x, lin(s)) {
				t.Errorf("Put(%s, none): %s", s, short(x))
			}
		}
	}
	comesBack(t, equs("x", "a", "a", "a"), 1, "a")
}

// P11.1

func TestSolve(t *testing.T) {
	for _, c := range []struct{ l, want []api.Equ }{
		{equs("a", "0"), equs("a", "0")},
		{equs("a", "7"), equs("a", "7")},
		{equs("a", "x"), equs("a", "x")},
		{equs("a", "x+2*y-1"), equs("a", "x+2*y-1")},
		{equs("a", "b", "b", "1"), equs("a", "1", "b", "1")},
		{equs("b", "1", "a", "b"), equs("b", "1", "a", "1")},
		{equs("a", "b+1", "b", "c+1", "c", "d+1", "d", "x"), equs("a", "x+3", "b", "x+2", "c", "x+1", "d", "x")},
		{equs("d", "x", "b", "c+1", "a", "b+1", "c", "d+1"), equs("d", "x", "b", "x+2", "a", "x+3", "c", "x+1")},
		{equs("c", "2*b", "b", "2*a", "a", "2*x"), equs("c", "8*x", "b", "4*x", "a", "2*x")},
		{equs("a", "2*b+1", "b", "3*c+1", "c", "5*x+1"), equs("a", "30*x+9", "b", "15*x+4", "c", "5*x+1")},
		// A name that is met twice on the way.
		{equs("a", "b+c", "b", "d+1", "c", "d+2", "d", "x"), equs("a", "2*x+3", "b", "x+1", "c", "x+2", "d", "x")},
		{equs("a", "b+c", "b", "c", "c", "x+1"), equs("a", "2*x+2", "b", "x+1", "c", "x+1")},
		{equs("a", "b+c+d", "b", "c+d", "c", "d", "d", "x+1"), equs("a", "4*x+4", "b", "2*x+2", "c", "x+1", "d", "x+1")},
		{equs("a", "b+x", "b", "x+y"), equs("a", "2*x+y", "b", "x+y")},
		// Names that lead nowhere stand beside those that do, and below, between and above them in the order of names.
		{equs("b", "A+_+c+d", "c", "B-d", "d", "z+1"), equs("b", "A+B+_", "c", "B-z-1", "d", "z+1")},
		{equs("n", "m+a+z", "m", "b+y"), equs("n", "a+b+y+z", "m", "b+y")},
		// Names are held against each other as a whole, great and small letters apart.
		{equs("a", "A+aa+a_+a0", "A", "1", "aa", "2"), equs("a", "a_+a0+3", "A", "1", "aa", "2")},
		{equs("r8", "z4+r9", "z4", "_", "r9", "r10"), equs("r8", "_+r10", "z4", "_", "r9", "r10")},
	} {
		solves(t, c.l, c.want)
	}
}

func TestNamesThatComeToNothing(t *testing.T) {
	for _, c := range []struct{ l, want []api.Equ }{
		{equs("a", "b-c", "b", "x", "c", "x"), equs("a", "0", "b", "x", "c", "x")},
		{equs("a", "b-x+y", "b", "x+3"), equs("a", "y+3", "b", "x+3")},
		{equs("a", "b+c", "b", "x+2", "c", "1-x"), equs("a", "3", "b", "x+2", "c", "1-x")},
		{equs("a", "2*b", "b", "0x80000000*x+5"), equs("a", "10", "b", "0x80000000*x+5")},
		{equs("a", "0x10000*b", "b", "0x10000*x+y+0x10001"), equs("a", "0x10000*y+0x10000", "b", "0x10000*x+y+0x10001")},
		{equs("a", "b+c", "b", "0x80000000*x", "c", "0x80000000*x"), equs("a", "0", "b", "0x80000000*x", "c", "0x80000000*x")},
		// What is gone on the way does not come again behind it.
		{equs("a", "b+x", "b", "c-d", "c", "x+y", "d", "x+y"), equs("a", "x", "b", "0", "c", "x+y", "d", "x+y")},
		{equs("a", "0x10000*b", "b", "0x10000*c", "c", "x"), equs("a", "0", "b", "0x10000*x", "c", "x")},
		{equs("a", "a-a"), equs("a", "0")},
		{equs("a", "b+a-a", "b", "b-b+x"), equs("a", "x", "b", "x")},
	} {
		solves(t, c.l, c.want)
	}
}

func TestTheEndsOfTheBits(t *testing.T) {
	for _, c := range []struct{ l, want []api.Equ }{
		{equs("a", "4294967295*b+4294967295", "b", "4294967295*x+4294967295"), equs("a", "x", "b", "4294967295*x+4294967295")},
		{equs("a", "-b", "b", "-x-1"), equs("a", "x+1", "b", "-x-1")},
		{equs("a", "2*b+1", "b", "0x7fffffff*x+0xffffffff"), equs("a", "0xfffffffe*x+0xffffffff", "b", "0x7fffffff*x+0xffffffff")},
		{equs("a", "2*b", "b", "0x80000001*x+0x80000001"), equs("a", "2*x+2", "b", "0x80000001*x+0x80000001")},
		{equs("a", "b+1", "b", "4294967295"), equs("a", "0", "b", "4294967295")},
		{equs("a", "b+c", "b", "4294967295*x", "c", "2*x"), equs("a", "x", "b", "4294967295*x", "c", "2*x")},
		{equs("a", "0x10000*b", "b", "0x10000"), equs("a", "0", "b", "0x10000")},
		{equs("a", "0x80000000*b+0x80000000", "b", "3*x+0x80000001"), equs("a", "0x80000000*x", "b", "3*x+0x80000001")},
	} {
		solves(t, c.l, c.want)
	}
}

func TestTheFirstThatComesBack(t *testing.T) {
	for _, c := range []struct {
		l    []api.Equ
		n    int
		back []string
	}{
		{equs("a", "a"), 0, []string{"a"}},
		{equs("a", "a+1"), 0, []string{"a"}},
		{equs("a", "2*a-x"), 0, []string{"a"}},
		{equs("a", "x+a+z", "z", "1"), 0, []string{"a"}},
		{equs("a", "b", "b", "a"), 0, []string{"a", "b"}},
		{equs("b", "a", "a", "b"), 0, []string{"a", "b"}},
		{equs("d", "c", "c", "b", "b", "a", "a", "d"), 0, []string{"a", "b", "c", "d"}},
		{equs("x", "1", "y", "x", "c", "y+a", "b", "c", "a", "b+x"), 2, []string{"a", "b", "c"}},
		// Two that do, and the first of them is neither the first name nor the first that a way comes to.
		{equs("b", "b", "a", "a"), 0, []string{"a", "b"}},
		{equs("x", "d", "c", "c+1", "d", "e", "e", "d"), 1, []string{"c", "d", "e"}},
		{equs("x", "c", "y", "x", "d", "e", "c", "c", "e", "d"), 2, []string{"c", "d", "e"}},
		{equs("z", "y", "y", "1", "b", "c", "a", "a", "c", "b"), 2, []string{"a", "b", "c"}},
		// Those that lead into a ring and do not come back.
		{equs("x", "a", "a", "b", "b", "c", "c", "b"), 2, []string{"b", "c"}},
		{equs("x", "y", "y", "z", "z", "a", "a", "a"), 3, []string{"a"}},
		{equs("a", "b", "b", "b", "c", "b"), 1, []string{"b"}},
		// One that leads from a ring to another one, and one that is led to by a ring.
		{equs("m", "c", "a", "b", "b", "a+m", "c", "d", "d", "c"), 1, []string{"a", "b", "c", "d"}},
		{equs("m", "1", "n", "m", "a", "n+b", "b", "a+m"), 2, []string{"a", "b"}},
		// Rings that have a name in common, and one within another.
		{equs("a", "b+c", "b", "a", "c", "a"), 0, []string{"a", "b", "c"}},
		{equs("o", "a", "a", "b", "b", "a+c", "c", "d", "d", "b"), 1, []string{"a", "b", "c", "d"}},
		{equs("a", "b", "b", "b+c", "c", "a+c"), 0, []string{"a", "b", "c"}},
		{equs("e", "d+g", "g", "1", "f", "e", "d", "f+d"), 0, []string{"d", "e", "f"}},
		// A way that comes to what is done already comes back all the same over another name.
		{equs("p", "q", "q", "1", "a", "p+b", "b", "q+c", "c", "p+q+a"), 2, []string{"a", "b", "c"}},
		// Of the way names count, whatever the coefficients come to.
		{equs("a", "0x10000*b", "b", "0x10000*a"), 0, []string{"a", "b"}},
		{equs("a", "0x80000000*a+1"), 0, []string{"a"}},
		{equs("a", "b-c", "b", "a+x", "c", "a+x"), 0, []string{"a", "b", "c"}},
		{equs("B", "a", "a", "_", "_", "B"), 0, []string{"B", "_", "a"}},
	} {
		comesBack(t, c.l, c.n, c.back...)
	}
}

// P11.2

func TestPut(t *testing.T) {
	for _, c := range []struct {
		x    string
		l    []api.Equ
		want string
	}{
		{"0", equs("a", "b"), "0"},
		{"7", equs("a", "1"), "7"},
		{"a", equs("a", "1"), "1"},
		{"a+1", equs("a", "2"), "3"},
		{"x+1", equs("a", "2"), "x+1"},
		{"3*a+1", equs("a", "2*x+5"), "6*x+16"},
		{"a+2*b+1", equs("a", "b+1", "b", "c"), "b+2*c+2"},
		{"a+b", equs("a", "b", "b", "a"), "a+b"},
		{"2*a+b", equs("a", "b", "b", "a"), "a+2*b"},
		{"a", equs("a", "b", "b", "c", "c", "1"), "b"},
		{"a", equs("a", "a+1"), "a+1"},
		{"2*a", equs("a", "a+1"), "2*a+2"},
		{"a", equs("a", "2*a"), "2*a"},
		{"a-b", equs("a", "x+1", "b", "x"), "1"},
		{"a-x", equs("a", "x"), "0"},
		{"2*a", equs("a", "0x80000000*x+y"), "2*y"},
		{"4294967295*a+4294967295", equs("a", "4294967295*x+4294967295"), "x"},
		{"0x10000*a+b", equs("a", "0x10000*b+0x10000"), "b"},
		{"a+c+e", equs("c", "b+d+f"), "a+b+d+e+f"},
		{"a+b+c", equs("c", "A", "a", "z", "x", "y"), "A+b+z"},
	} {
		if x := equ.Put(lin(c.x), c.l); !expr.Same(x, lin(c.want)) || !expr.Right(x) {
			t.Errorf("Put(%s; %s): %s, not %s", c.x, told(c.l), short(x), c.want)
		}
	}
}

// P11.3

func TestCycleOfNone(t *testing.T) {
	for _, l := range [][]api.Equ{nil, {}, equs("a", "0"), equs("a", "b"), equs("a", "b", "b", "c"), equs("a", "b+c", "b", "c", "c", "x")} {
		if back := equ.Cycle(l); len(back) != 0 {
			t.Errorf("Cycle(%s): %v", told(l), back)
		}
	}
}

func TestCycleRises(t *testing.T) {
	names := []string{"z9", "b", "B", "_", "a10", "a9", "a", "aa", "Z", "r8"}
	var l []api.Equ
	for i, name := range names {
		l = append(l, api.Equ{Name: name, E: expr.Named(names[(i+1)%len(names)])})
	}
	comesBack(t, l, 0, "B", "Z", "_", "a", "a10", "a9", "aa", "b", "r8", "z9")
}

// P11.1 to P11.3, held against the chapter's words gone anew.

func TestDrawnEqus(t *testing.T) {
	r := rand.New(rand.NewSource(11))
	rings := 0
	for range 6000 {
		l := drawnEqus(r)
		at := returning(l)
		if len(at) > 0 {
			rings++
			var back []string
			for _, i := range at {
				back = append(back, l[i].Name)
			}
			slices.Sort(back)
			comesBack(t, l, at[0], back...)
		} else {
			var want []api.Equ
			for _, q := range l {
				want = append(want, api.Equ{Name: q.Name, E: replaced(q.E, l)})
			}
			solves(t, l, want)
		}
		x := drawnLin(r, slices.Concat(ownNames, otherNames), 6)
		if got, want := equ.Put(x, l), once(x, l); !expr.Same(got, want) || !expr.Right(got) {
			t.Errorf("Put(%s; %s): %s, not %s", short(x), told(l), short(got), short(want))
		}
		if t.Failed() {
			t.FailNow()
		}
	}
	if rings < 1000 || rings > 5000 {
		t.Errorf("%d of 6000 lists have rings: the other kind is hardly met", rings)
	}
}

// All lists of three equs that lead to each other in any way.
func TestAllWaysOfThree(t *testing.T) {
	names := []string{"c", "a", "b"}
	for ways := range 1 << 9 {
		var l []api.Equ
		for i, name := range names {
			x := expr.Add(expr.Named("x"), expr.Of(uint32(i)))
			for j, to := range names {
				if ways>>(3*i+j)&1 == 1 {
					x = expr.Add(x, expr.Times(expr.Named(to), uint32(i+j+1)))
				}
			}
			l = append(l, api.Equ{Name: name, E: x})
		}
		if at := returning(l); len(at) > 0 {
			var back []string
			for _, i := range at {
				back = append(back, names[i])
			}
			slices.Sort(back)
			comesBack(t, l, at[0], back...)
			continue
		}
		var want []api.Equ
		for _, q := range l {
			want = append(want, api.Equ{Name: q.Name, E: replaced(q.E, l)})
		}
		solves(t, l, want)
	}
}

// P11.4

func TestWhatIsSolvedHasNoNameOfTheList(t *testing.T) {
	r := rand.New(rand.NewSource(12))
	for range 2000 {
		l := drawnWays(r)
		out := solved(t, l)
		for i, q := range out {
			if q.Name != l[i].Name || !expr.Right(q.E) {
				t.Fatalf("Solve(%s): %s", told(l), told(out))
			}
			for _, term := range q.E.Terms {
				if slices.Contains(ownNames, term.Name) {
					t.Fatalf("Solve(%s): %s: the name %s is left", told(l), told(out), term.Name)
				}
			}
			for _, list := range [][]api.Equ{l, out} {
				if x := equ.Put(q.E, list); !expr.Same(x, q.E) {
					t.Fatalf("Put(%s; %s): %s: it does not stay", short(q.E), told(list), short(x))
				}
			}
			if x := equ.Put(l[i].E, out); !expr.Same(x, q.E) {
				t.Fatalf("Put(%s; %s): %s, not what is solved", short(l[i].E), told(out), short(x))
			}
		}
		solves(t, out, out)
	}
}

func TestTheOrderOfTheList(t *testing.T) {
	r := rand.New(rand.NewSource(13))
	for range 2000 {
		l := drawnEqus(r)
		first, n, why := equ.Solve(l)
		back := equ.Cycle(l)
		x := drawnLin(r, slices.Concat(ownNames, otherNames), 6)
		order := r.Perm(len(l))
		var m, want []api.Equ
		at := len(l)
		for j, i := range order {
			m = append(m, l[i])
			if why == api.OK {
				want = append(want, first[i])
			}
			if slices.Contains(back, l[i].Name) {
				at = min(at, j)
			}
		}
		if why == api.OK {
			at = 0
		}
		got, k, mWhy := equ.Solve(m)
		if !same(got, want) || k != at || mWhy != why {
			t.Fatalf("Solve(%s): %s; %d, %v; but Solve(%s): %s; %d, %v", told(l), told(first), n, why, told(m), told(got), k, mWhy)
		}
		if !slices.Equal(equ.Cycle(m), back) || !expr.Same(equ.Put(x, m), equ.Put(x, l)) {
			t.Fatalf("Cycle or Put of %s and of %s", told(l), told(m))
		}
	}
}

func TestTheValueOfWhatIsSolved(t *testing.T) {
	r := rand.New(rand.NewSource(14))
	for range 2000 {
		l := drawnWays(r)
		given := map[string]uint32{}
		for _, name := range otherNames {
			given[name] = r.Uint32() >> r.Intn(33)
		}
		all := maps.Clone(given)
		out := solved(t, l)
		for _, q := range out {
			n, ok := expr.Value(q.E, given)
			if !ok {
				t.Fatalf("Solve(%s): %s: a name has no value", told(l), told(out))
			}
			all[q.Name] = n
		}
		for _, q := range l {
			if n, ok := expr.Value(q.E, all); n != all[q.Name] || !ok {
				t.Fatalf("%s, solved to %s: %s is %d, and its expression %d", told(l), told(out), q.Name, all[q.Name], n)
			}
		}
		x := drawnLin(r, slices.Concat(ownNames, otherNames), 6)
		n, _ := expr.Value(x, all)
		if m, ok := expr.Value(equ.Put(x, out), given); m != n || !ok {
			t.Fatalf("Put(%s; %s): %d, not %d", short(x), told(out), m, n)
		}
	}
}

// Calls answer the same again, however maps are gone through.
func TestAnswersStayTheSame(t *testing.T) {
	ring := equs("x", "a", "f", "e", "e", "d", "d", "c", "c", "b", "b", "a", "a", "f", "z", "z", "y", "y")
	right := equs("a", "b+c+d+e+f", "b", "g+h+i+j+k", "c", "l+m-g-h", "d", "k+j+i", "e", "h", "f", "n")
	want := fmt.Sprint(equ.Solve(right))
	for range 200 {
		comesBack(t, ring, 1, "a", "b", "c", "d", "e", "f", "y", "z")
		if got := fmt.Sprint(equ.Solve(right)); got != want {
			t.Fatalf("%s, then %s", want, got)
		}
	}
}
