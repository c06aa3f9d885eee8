package link_test

import (
	"math/rand"
	"slices"
	"testing"

	"spandrel/api"
	"spandrel/link"
	"spandrel/unit"
)

// P12.4

// locals answers the names that u gives and does not share.
func locals(u api.Unit) []string {
	return slices.DeleteFunc(unit.Names(u), func(name string) bool { return slices.Contains(u.Globals, name) })
}

// renamedLin answers x with fresh names in the places of the old ones.
func renamedLin(x api.Lin, fresh map[string]string) api.Lin {
	coefs := map[string]uint32{}
	for _, t := range x.Terms {
		coefs[renamedName(t.Name, fresh)] = t.Coef
	}
	return fromCoefs(coefs, x.Const)
}

func renamedName(name string, fresh map[string]string) string {
	if to, ok := fresh[name]; ok {
		return to
	}
	return name
}

func renamedItems(l []api.Item, fresh map[string]string) []api.Item {
	var out []api.Item
	for _, x := range l {
		x.Name = renamedName(x.Name, fresh)
		x.E = renamedLin(x.E, fresh)
		out = append(out, x)
	}
	return out
}

// renamed answers u with fresh names in the places of the old ones.
func renamed(u api.Unit, fresh map[string]string) api.Unit {
	out := api.Unit{Text: renamedItems(u.Text, fresh), Data: renamedItems(u.Data, fresh), Globals: u.Globals}
	for _, q := range u.Equs {
		out.Equs = append(out.Equs, api.Equ{Name: renamedName(q.Name, fresh), E: renamedLin(q.E, fresh)})
	}
	return out
}

// freshNames answers, for each local of u, a name that stands in no unit; they rise in another order than those that they stand for.
func freshNames(u api.Unit, order []int) map[string]string {
	fresh := map[string]string{}
	for i, name := range locals(u) {
		fresh[name] = numbered([]string{"A", "new", "z_"}[i%3], 10+order[i])
	}
	return fresh
}

// sameButNames holds p against what it was, q, where the names of unit n were renamed by fresh[n].
func sameButNames(t *testing.T, q, p *link.Program, fresh []map[string]string) {
	t.Helper()
	if p.Units() != q.Units() || p.Spans() != q.Spans() {
		t.Errorf("%d units and %d spans, not %d and %d", p.Units(), p.Spans(), q.Units(), q.Spans())
	}
	want := q.Labels()
	for i, l := range want {
		want[i].Name = renamedName(l.Name, fresh[l.Unit])
	}
	if got := p.Labels(); !slices.Equal(got, want) {
		t.Errorf("%+v, not %+v", got, want)
	}
	for n := range p.Units() {
		for section := range 2 {
			want := q.Items(n, section)
			for i, x := range want {
				want[i].Name = renamedName(x.Name, fresh[n])
			}
			if got := p.Items(n, section); !sameItems(got, want) {
				t.Errorf("Items(%d, %d): %+v, not %+v", n, section, got, want)
			}
		}
		for _, name := range drawnNames {
			number, ok := q.Find(n, name)
			if !ok {
				number = -1
			}
			finds(t, p, n, renamedName(name, fresh[n]), number)
		}
	}
}

func TestLocalsRenamed(t *testing.T) {
	units := unitsOf("x: jmp g+x\nequ e, 2*x-f\nli r1, e\nsection data\ny: word y-x, e", "x: equ f, x+e\nequ e, 3\nglobal f\ng: global g\ncall x")
	before := linked(t, units...)
	fresh := []map[string]string{{"x": "zz", "e": "_", "y": "A"}, {"x": "e0", "e": "x0"}}
	after := linked(t, renamed(units[0], fresh[0]), renamed(units[1], fresh[1]))
	sameButNames(t, before, after, fresh)
	says(t, after, "zz: jmp L0+L3\nli r1, 2*L0-L2-3\nsection data\nA: word L1-L0, 2*L0-L2-3", "e0:\ng: call L2")
	finds(t, after, 0, "x", -1)
	finds(t, after, 1, "e0", 2)
}

func TestDrawnLocalsRenamed(t *testing.T) {
	r := rand.New(rand.NewSource(124))
	programs, refused := 0, 0
	for i := range 4000 {
		d := drawer{Rand: r, global: 30, back: 20 * (i % 2), strange: 20 * (i % 2)}
		units := d.units()
		fresh := make([]map[string]string, len(units))
		out := slices.Clone(units)
		for n, u := range units {
			// Those of one unit, or of all.
			if i%3 > 0 || n == i%len(units) {
				fresh[n] = freshNames(u, r.Perm(len(locals(u))))
				out[n] = renamed(u, fresh[n])
			}
		}
		before, fail := link.Link(units...)
		after, got := link.Link(out...)
		if fail.Why == api.ErrCycle {
			fail.Name = renamedName(fail.Name, fresh[fail.Unit])
		}
		if got != fail || (after == nil) != (before == nil) {
			t.Fatalf("%+v: %+v, not %+v", out, got, fail)
		}
		if before == nil {
			refused++
			continue
		}
		programs++
		if sameButNames(t, before, after, fresh); t.Failed() {
			t.Fatalf("%+v, renamed %+v", units, out)
		}
	}
	if programs < 1000 || refused < 300 {
		t.Errorf("%d programs, %d refused", programs, refused)
	}
}
