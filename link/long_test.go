package link_test

import (
	"math/rand"
	"slices"
	"testing"

	"spandrel/api"
	"spandrel/expr"
)

// Equs with many terms: as few and as many as one likes, alone, within each other, and gone again.

// sumOf answers the sum of the names with these numbers, from one to below the other, each so many times.
func sumOf(name string, from, to int, coef uint32) api.Lin {
	coefs := map[string]uint32{}
	for i := from; i < to; i++ {
		coefs[numbered(name, i)] = coef
	}
	return fromCoefs(coefs, 0)
}

// labelled answers a unit with n labels x0, x1 and so on.
func labelled(n int) api.Unit {
	var u api.Unit
	for i := range n {
		u.Text = append(u.Text, label(numbered("x", i)))
	}
	return u
}

func TestEqusOfAnyNumberOfTerms(t *testing.T) {
	for n := range 70 {
		u := labelled(n)
		all := sumOf("x", 0, n, 3)
		plus := func(x api.Lin, y string, times uint32) api.Lin {
			return expr.Add(x, expr.Times(expr.Named(y), times))
		}
		u.Equs = []api.Equ{
			{Name: "twice", E: plus(expr.Of(1), "all", 2)},
			{Name: "all", E: expr.Add(all, expr.Of(5))},
			{Name: "none", E: plus(all, "all", most)},
			{Name: "some", E: plus(expr.Times(sumOf("x", 0, n/2, 3), most), "all", 1)},
			{Name: "both", E: plus(expr.Named("twice"), "some", 1)},
		}
		for _, name := range []string{"twice", "all", "none", "some", "both"} {
			u.Data = append(u.Data, worded(expr.Named(name)))
		}
		u.Data = append(u.Data,
			worded(plus(expr.Named("both"), "twice", most)),
			worded(plus(expr.Named("twice"), "all", most-1)),
			worded(plus(expr.Of(1), "all", 1<<31)),
			worded(plus(plus(all, "both", 7), "twice", 9)))
		agrees(t, []api.Unit{u})
	}
}

// A chain of equs of which each has a label more than the next, over units, and each of them is asked for.
func TestGatheringChains(t *testing.T) {
	for n := 1; n < 80; n++ {
		units := make([]api.Unit, 1+n%3)
		for i := range n {
			e := expr.Add(expr.Times(expr.Named(numbered("x", i)), uint32(i+1)), expr.Of(1))
			if i < n-1 {
				e = expr.Add(e, expr.Times(expr.Named(numbered("e", i+1)), 3))
			}
			if i < n-2 {
				// And over the next one, so that there are many ways.
				e = expr.Add(e, expr.Named(numbered("e", i+2)))
			}
			u := &units[i%len(units)]
			u.Data = append(u.Data, label(numbered("x", i)), worded(expr.Named(numbered("e", i))))
			u.Equs = append(u.Equs, api.Equ{Name: numbered("e", i), E: e})
			u.Globals = append(u.Globals, numbered("e", i))
		}
		for i := range units {
			slices.Sort(units[i].Globals)
		}
		agrees(t, units)
	}
}

// drawnLong answers units with so many labels and equs, all of them global, and equs that lead to labels and to equs drawn ahead of them.
func drawnLong(r *rand.Rand, labels, equs int) []api.Unit {
	units := make([]api.Unit, 1+r.Intn(3))
	var names []string
	give := func(name string) *api.Unit {
		names = append(names, name)
		u := &units[r.Intn(len(units))]
		u.Globals = append(u.Globals, name)
		return u
	}
	drawn := func() api.Lin {
		coefs := map[string]uint32{}
		for range r.Intn(12) {
			// Often an equ that was drawn of late.
			at := r.Intn(len(names))
			if r.Intn(3) == 0 {
				at = max(at, len(names)-1-r.Intn(4))
			}
			coefs[names[at]] += []uint32{1, 1, 2, most, 1 << 31, 1 << 16}[r.Intn(6)]
		}
		return fromCoefs(coefs, uint32(r.Intn(5)))
	}
	for i := range labels {
		u := give(numbered("x", i))
		u.Text = append(u.Text, label(numbered("x", i)))
	}
	for i := range equs {
		x := drawn()
		u := give(numbered("e", i))
		u.Equs = append(u.Equs, api.Equ{Name: numbered("e", i), E: x})
	}
	for i := range units {
		u := &units[i]
		slices.Sort(u.Globals)
		r.Shuffle(len(u.Equs), func(i, j int) { u.Equs[i], u.Equs[j] = u.Equs[j], u.Equs[i] })
		for range 5 {
			u.Data = append(u.Data, worded(drawn()))
		}
	}
	return units
}

func TestDrawnLongEqus(t *testing.T) {
	r := rand.New(rand.NewSource(122))
	for range 300 {
		units := drawnLong(r, 1+r.Intn(60), r.Intn(40))
		if why := agrees(t, units); why != api.OK {
			t.Fatal(why)
		}
	}
}

// What is answered of long equs is new memory, and no list shares it with another.
func TestLongAnswersAreNewMemory(t *testing.T) {
	u := labelled(50)
	u.Equs = []api.Equ{{Name: "all", E: sumOf("x", 0, 50, 1)}, {Name: "more", E: expr.Add(expr.Named("all"), sumOf("x", 3, 40, 2))}}
	u.Data = []api.Item{worded(expr.Named("all")), worded(expr.Named("all")), worded(expr.Named("more")), worded(expr.Add(expr.Named("x7"), expr.Named("more")))}
	p := linked(t, u)
	want := p.Items(0, data)
	for i := range want {
		got := p.Items(0, data)
		scribbleTerms(got[i].E.Terms)
		got[i].E = want[i].E
		if !sameItems(got, want) || !sameItems(p.Items(0, data), want) {
			t.Errorf("the terms of the word %d are others' too", i)
		}
	}
	agrees(t, []api.Unit{u})
}
