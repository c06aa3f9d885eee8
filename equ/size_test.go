package equ_test

import (
	"math/rand"
	"slices"
	"testing"

	"spandrel/api"
	"spandrel/equ"
	"spandrel/expr"
)

// Long ways, many equs, and expressions with many terms.

// chain answers n equs, each of which is the next one and one more, and the last one last and one more.
func chain(n int, last string) []api.Equ {
	var l []api.Equ
	for i := range n {
		next := numbered("a", i+1)
		if i == n-1 {
			next = last
		}
		l = append(l, api.Equ{Name: numbered("a", i), E: expr.Add(expr.Named(next), expr.Of(1))})
	}
	return l
}

// orders answers l, turned round and shuffled.
func orders(l []api.Equ) [][]api.Equ {
	back, mixed := slices.Clone(l), slices.Clone(l)
	slices.Reverse(back)
	rand.New(rand.NewSource(15)).Shuffle(len(mixed), func(i, j int) { mixed[i], mixed[j] = mixed[j], mixed[i] })
	return [][]api.Equ{l, back, mixed}
}

func TestALongWay(t *testing.T) {
	const n = 1 << 17
	for _, l := range orders(chain(n, "x")) {
		sum := uint32(0)
		for i, q := range solved(t, l) {
			if q.Name != l[i].Name || len(q.E.Terms) != 1 || q.E.Terms[0] != (api.Term{Name: "x", Coef: 1}) {
				t.Fatalf("%s = %s", q.Name, short(q.E))
			}
			if q.Name == "a0" && q.E.Const != n {
				t.Errorf("a0 = %s", short(q.E))
			}
			sum += q.E.Const
		}
		if all := uint64(n) * (n + 1) / 2; sum != uint32(all) {
			t.Errorf("the numbers are %d together", sum)
		}
		if back := equ.Cycle(l); len(back) != 0 {
			t.Errorf("%d come back", len(back))
		}
	}
}

func TestALongRing(t *testing.T) {
	const n, ahead = 1 << 17, 1000
	ring := chain(n, numbered("a", ahead))
	var want []string
	for _, q := range ring[ahead:] {
		want = append(want, q.Name)
	}
	slices.Sort(want)
	for _, l := range orders(ring) {
		first := slices.IndexFunc(l, func(q api.Equ) bool {
			_, ok := slices.BinarySearch(want, q.Name)
			return ok
		})
		if out, at, why := equ.Solve(l); len(out) != 0 || at != first || why != api.ErrCycle {
			t.Errorf("%d equs, %d, %v; not ErrCycle at %d", len(out), at, why, first)
		}
		if back := equ.Cycle(l); !slices.Equal(back, want) {
			t.Errorf("%d come back, not %d", len(back), len(want))
		}
	}
}

// ladder answers equs of which each step leads to the next one by two names: from the first to the last one there are 2^steps ways.
func ladder(steps int, last string) []api.Equ {
	var l []api.Equ
	for i := range steps {
		next := expr.Named(numbered("n", i+1))
		if i == steps-1 {
			next = expr.Named(last)
		}
		l = append(l,
			api.Equ{Name: numbered("n", i), E: expr.Add(expr.Named(numbered("left", i)), expr.Times(expr.Named(numbered("right", i)), 2))},
			api.Equ{Name: numbered("left", i), E: next},
			api.Equ{Name: numbered("right", i), E: next})
	}
	return l
}

func TestManyWays(t *testing.T) {
	const steps = 2000
	power := uint32(1)
	for range steps {
		power *= 3
	}
	for _, l := range orders(ladder(steps, "x")) {
		out := solved(t, l)
		at := slices.IndexFunc(out, func(q api.Equ) bool { return q.Name == "n0" })
		if want := expr.Times(expr.Named("x"), power); !expr.Same(out[at].E, want) {
			t.Errorf("n0 = %s, not %s", short(out[at].E), short(want))
		}
		if back := equ.Cycle(l); len(back) != 0 {
			t.Errorf("%d come back", len(back))
		}
	}
	for _, l := range orders(ladder(steps, "n0")) {
		if _, at, why := equ.Solve(l); at != 0 || why != api.ErrCycle {
			t.Errorf("%d, %v", at, why)
		}
		if back := equ.Cycle(l); len(back) != len(l) || !slices.IsSorted(back) {
			t.Errorf("%d come back", len(back))
		}
	}
	own := append(ladder(steps, "end"), equs("end", "end")...)
	comesBack(t, own, len(own)-1, "end")
}

func TestManyRings(t *testing.T) {
	const n = 20000
	l := equs("first", "a0")
	var want []string
	for i := range n {
		// Each ring leads to the next one, which does not lead back.
		a, b := numbered("a", i), numbered("b", i)
		l = append(l, api.Equ{Name: a, E: expr.Add(expr.Named(b), expr.Named(numbered("a", i+1)))}, api.Equ{Name: b, E: expr.Named(a)})
		want = append(want, a, b)
	}
	slices.Sort(want)
	comesBack(t, l, 1, want...)
}

func TestManyEqus(t *testing.T) {
	const n = 1 << 16
	l := equs("zero", "x-1")
	want := equs("zero", "x-1")
	for i := range n {
		name, own := numbered("q", i), expr.Named(numbered("y", i))
		l = append(l, api.Equ{Name: name, E: expr.Add(expr.Times(expr.Named("zero"), uint32(i)), own)})
		want = append(want, api.Equ{Name: name, E: expr.Add(expr.Times(lin("x-1"), uint32(i)), own)})
	}
	solves(t, l, want)
}

// wide answers a right Lin of n terms, the first of them once, the second twice, and so on.
func wide(name string, n int) api.Lin {
	var x api.Lin
	for i := range n {
		x.Terms = append(x.Terms, api.Term{Name: numbered(name, 100000+i), Coef: uint32(i + 1)})
	}
	return x
}

func TestManyTerms(t *testing.T) {
	const n = 30000
	// All are names of the list, each of which leads on to one of two others.
	var l []api.Equ
	for i := range n {
		l = append(l, api.Equ{Name: numbered("b", 100000+i), E: expr.Add(expr.Named([]string{"x", "y"}[i%2]), expr.Of(1))})
	}
	l = append(l, api.Equ{Name: "all", E: wide("b", n)})
	odd, even := uint32(n/2*(n/2)), uint32(n/2*(n/2+1))
	want := expr.Add(expr.Add(expr.Times(expr.Named("x"), odd), expr.Times(expr.Named("y"), even)), expr.Of(odd+even))
	if got := solved(t, l)[n].E; !expr.Same(got, want) {
		t.Errorf("%s, not %s", short(got), short(want))
	}
	if got := equ.Put(wide("b", n), l); !expr.Same(got, want) {
		t.Errorf("%s, not %s", short(got), short(want))
	}
	// None is.
	if got := equ.Put(wide("c", n), l); !expr.Same(got, wide("c", n)) {
		t.Errorf("%s", short(got))
	}
	// One has all of them.
	got := equ.Put(expr.Add(wide("c", n), lin("2*q+1")), []api.Equ{{Name: "q", E: expr.Add(wide("c", n), lin("5"))}})
	if want := expr.Add(expr.Times(wide("c", n), 3), lin("11")); !expr.Same(got, want) {
		t.Errorf("%s", short(got))
	}
}

// Terms that gather along a way.
func TestGatheredTerms(t *testing.T) {
	const n = 700
	var l, want []api.Equ
	for i := range n {
		x := wide("x", n)
		x.Terms = x.Terms[i:]
		want = append(want, api.Equ{Name: numbered("a", i), E: x})
		own := api.Lin{Terms: []api.Term{x.Terms[0]}}
		if i < n-1 {
			own = expr.Add(own, expr.Named(numbered("a", i+1)))
		}
		l = append(l, api.Equ{Name: numbered("a", i), E: own})
	}
	solves(t, l, want)
}
