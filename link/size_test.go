package link_test

import (
	"slices"
	"testing"

	"spandrel/api"
	"spandrel/expr"
	"spandrel/link"
)

// Many units, many items, long ways, and expressions with many terms.

func TestManyLabels(t *testing.T) {
	// As many as there can be: their words have one to six digits.
	units := make([]api.Unit, 64)
	for n := range units {
		for i := range 4000 {
			units[n].Text = append(units[n].Text, label(numbered("x", i)))
		}
		units[n].Text = append(units[n].Text, label(numbered("g", n)))
		for i := range 4191 - 1 {
			units[n].Data = append(units[n].Data, label(numbered("y", i)))
		}
		next := numbered("g", (n+1)%64)
		units[n].Data = append(units[n].Data, worded(expr.Add(expr.Named("x9"), expr.Times(expr.Named(next), 3))))
		units[n].Globals = []string{numbered("g", n)}
	}
	p := linked(t, units...)
	const each = 8191
	labels := p.Labels()
	if len(labels) != 64*each || p.Units() != 64 {
		t.Fatalf("%d labels", len(labels))
	}
	for _, number := range []int{0, 9, 10, 99, 100, 3999, 4000, 4001, 8190, 8191, 99999, 100000, 524223} {
		if n, ok := p.Find(labels[number].Unit, labels[number].Name); n != number || !ok {
			t.Errorf("Find of %+v: %d, %v", labels[number], n, ok)
		}
	}
	for n := range units {
		l := p.Items(n, data)
		want := expr.Add(expr.Named(numbered("L", n*each+9)), expr.Times(expr.Named(numbered("L", (n+1)%64*each+4000)), 3))
		if got := l[len(l)-1].E; len(l) != 4191 || !expr.Same(got, want) {
			t.Errorf("unit %d: %d items, %+v, not %+v", n, len(l), got, want)
		}
	}
}

// chain answers units with so many equs each, every one of which is the next one and one more, over all units; the last one is last.
func chain(units, equs int, last string) []api.Unit {
	var out []api.Unit
	for n := range units {
		var u api.Unit
		for i := range equs {
			next := numbered("e", i+1)
			if i == equs-1 {
				next = numbered("g", n+1)
			}
			if i == equs-1 && n == units-1 {
				next = last
			}
			name := numbered("e", i)
			if i == 0 {
				name = numbered("g", n)
				u.Globals = []string{name}
			}
			u.Equs = append(u.Equs, api.Equ{Name: name, E: expr.Add(expr.Named(next), expr.Of(1))})
		}
		u.Text = []api.Item{label("x")}
		u.Data = []api.Item{worded(expr.Named(numbered("g", 0))), worded(expr.Named(u.Equs[equs-1].Name))}
		out = append(out, u)
	}
	return out
}

func TestALongWayOverUnits(t *testing.T) {
	for _, c := range [][2]int{{1, 8192}, {64, 1}, {64, 8192}} {
		units, equs := c[0], c[1]
		given := chain(units, equs, "x")
		for range 4000 {
			// The way is not gone anew for each of these.
			given[0].Data = append(given[0].Data, worded(expr.Named("g0")))
		}
		p := linked(t, given...)
		end := expr.Named(numbered("L", units-1))
		for n := range units {
			l := p.Items(n, data)
			first, last := expr.Add(end, expr.Of(uint32(units*equs))), expr.Add(end, expr.Of(uint32((units-n-1)*equs+1)))
			if !expr.Same(l[0].E, first) || !expr.Same(l[1].E, last) {
				t.Errorf("%d units of %d equs: %s in %d", units, equs, short(l), n)
			}
			for _, x := range l[2:] {
				if !expr.Same(x.E, first) {
					t.Fatalf("%d units of %d equs: %+v in %d", units, equs, x.E, n)
				}
			}
		}
		fails(t, link.Fail{Why: api.ErrCycle, Unit: 0, Name: "g0"}, chain(units, equs, "g0")...)
	}
	// The ring begins in the unit in the midst.
	fails(t, link.Fail{Why: api.ErrCycle, Unit: 31, Name: "g31"}, chain(64, 5, "g31")...)
	fails(t, link.Fail{Why: api.ErrCycle, Unit: 63, Name: "e4"}, chain(64, 5, "e4")...)
}

// From the first equ to the last one there are 2^1000 ways.
func TestManyWays(t *testing.T) {
	var u, v api.Unit
	power := uint32(1)
	for i := range 1000 {
		a, b, next := numbered("a", i), numbered("b", i), numbered("a", i+1)
		u.Equs = append(u.Equs, api.Equ{Name: a, E: expr.Add(expr.Named(b), expr.Times(expr.Named(next), 2))})
		v.Equs = append(v.Equs, api.Equ{Name: b, E: expr.Named(next)})
		u.Globals, v.Globals = append(u.Globals, a), append(v.Globals, b)
		power *= 3
	}
	slices.Sort(u.Globals)
	slices.Sort(v.Globals)
	end := api.Unit{Text: []api.Item{label("a1000"), {Kind: api.Code, Inst: api.Inst{Op: 38}, E: expr.Named("a0")}}, Globals: []string{"a1000"}}
	p := linked(t, u, v, end)
	if l := p.Items(2, text); !expr.Same(l[1].E, expr.Times(expr.Named("L0"), power)) {
		t.Errorf("%+v, not %d times L0", l, power)
	}
}

func TestManyTerms(t *testing.T) {
	const n = 4000
	var u api.Unit
	var sum api.Lin
	coefs := map[string]uint32{}
	for i := range n {
		name := numbered("x", 1000+i)
		u.Text = append(u.Text, label(name))
		sum.Terms = append(sum.Terms, api.Term{Name: name, Coef: uint32(i + 1)})
		coefs[numbered("L", i)] = uint32(i + 1)
	}
	u.Equs = []api.Equ{{Name: "all", E: sum}}
	u.Data = []api.Item{worded(sum), worded(expr.Named("all")), worded(expr.Add(sum, expr.Times(expr.Named("all"), most))), worded(expr.Add(sum, expr.Times(expr.Named("all"), 2)))}
	l := linked(t, u).Items(0, data)
	want := fromCoefs(coefs, 0)
	for i, x := range []api.Lin{want, want, {}, expr.Times(want, 3)} {
		if !expr.Same(l[i].E, x) {
			t.Errorf("word %d: %s", i, short(l[i].E))
		}
	}
}

// Each equ has one label more than the next one: all of them, solved, would have billions of terms, and what is asked for has few.
func TestGatheredTerms(t *testing.T) {
	const count, each = 64, 2048
	units := chain(count, each, "x")
	for n := range units {
		u := &units[n]
		u.Text = nil
		for i := range each {
			u.Text = append(u.Text, label(numbered("y", i)))
			u.Equs[i].E = expr.Add(u.Equs[i].E, expr.Named(numbered("y", i)))
		}
	}
	units[count-1].Data = append(units[count-1].Data, label("x"))
	coefs := map[string]uint32{}
	for i := range count*each + 1 {
		coefs[numbered("L", i)] = 1
	}
	p := linked(t, units...)
	for _, n := range []int{0, 40, count - 1} {
		l := p.Items(n, data)
		if got, want := l[0].E, fromCoefs(coefs, count*each); !expr.Same(got, want) {
			t.Errorf("unit %d: %s, not %s", n, short(got), short(want))
		}
		if got := l[1].E; len(got.Terms) != (count-1-n)*each+2 || got.Const != uint32((count-1-n)*each+1) {
			t.Errorf("unit %d: %d terms, %d", n, len(got.Terms), got.Const)
		}
	}
}

// An equ of many terms stands in very many items: no answer is too long, but all of them would be together.
func TestOneEquInManyItems(t *testing.T) {
	const terms, words = 4000, 1500
	units := make([]api.Unit, 64)
	units[0] = labelled(terms)
	units[0].Equs = []api.Equ{{Name: "all", E: sumOf("x", 0, terms, 1)}}
	units[0].Globals = []string{"all"}
	for n := range units {
		for i := range words {
			units[n].Data = append(units[n].Data, worded(expr.Add(expr.Named("all"), expr.Of(uint32(i)))))
		}
	}
	p := linked(t, units...)
	want := sumOf("L", 0, terms, 1)
	for _, n := range []int{0, 63} {
		for i, x := range p.Items(n, data) {
			if x.E.Const != uint32(i) || !slices.Equal(x.E.Terms, want.Terms) {
				t.Fatalf("unit %d, word %d: %s", n, i, short(x.E))
			}
		}
	}
}

// MaxUnits units that all know each other's globals, and one more.
func TestAsManyUnitsAsThereMayBe(t *testing.T) {
	var units []api.Unit
	for n := range 64 {
		u := unitOf("x: nop\njmp x\nequ e, " + numbered("g", 63-n) + "+1\ncall e")
		u.Text = append(u.Text, label(numbered("g", n)))
		u.Globals = []string{numbered("g", n)}
		units = append(units, u)
	}
	p := linked(t, units...)
	if p.Units() != 64 || len(p.Labels()) != 128 || p.Spans() != 128 {
		t.Errorf("%d units, %d labels, %d spans", p.Units(), len(p.Labels()), p.Spans())
	}
	for n := range 64 {
		finds(t, p, n, "x", 2*n)
		finds(t, p, 63-n, numbered("g", n), 2*n+1)
		l := p.Items(n, text)
		if !expr.Same(l[2].E, expr.Named(numbered("L", 2*n))) || !expr.Same(l[3].E, expr.Add(expr.Named(numbered("L", 2*(63-n)+1)), expr.Of(1))) {
			t.Errorf("unit %d: %+v", n, l)
		}
	}
	fails(t, link.Fail{Why: api.ErrMany}, append(units, unitOf("nop"))...)
}
