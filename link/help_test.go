package link_test

import (
	"fmt"
	"maps"
	"math"
	"math/rand"
	"slices"
	"strconv"
	"testing"

	"spandrel/api"
	"spandrel/expr"
	"spandrel/link"
	"spandrel/unit"
)

const (
	text = 0
	data = 1
	most = math.MaxUint32
)

// unitOf answers the unit that the source says.
func unitOf(src string) api.Unit {
	u, err := unit.Assemble(src)
	if err != nil {
		panic(fmt.Sprintf("%q: %v", src, err))
	}
	return u
}

func unitsOf(srcs ...string) []api.Unit {
	var l []api.Unit
	for _, s := range srcs {
		l = append(l, unitOf(s))
	}
	return l
}

// wrong answers a unit that is not right.
func wrong() api.Unit {
	return api.Unit{Globals: []string{"nobody"}}
}

func label(name string) api.Item {
	return api.Item{Kind: api.Label, Name: name}
}

func worded(e api.Lin) api.Item {
	return api.Item{Kind: api.Word, E: e}
}

// numbered answers a name with a number in it.
func numbered(name string, n int) string {
	return name + strconv.Itoa(n)
}

func sameItem(x, y api.Item) bool {
	return x.Kind == y.Kind && x.Name == y.Name && x.Inst == y.Inst && x.N == y.N && expr.Same(x.E, y.E)
}

func sameItems(a, b []api.Item) bool {
	return slices.EqualFunc(a, b, sameItem)
}

// short answers x in words, but no more of them than one reads.
func short(x any) string {
	s := fmt.Sprintf("%+v", x)
	if len(s) > 600 {
		return s[:600] + ".."
	}
	return s
}

// linked answers the program of units that must be one.
func linked(t *testing.T, units ...api.Unit) *link.Program {
	t.Helper()
	p, fail := link.Link(units...)
	if p == nil || fail != (link.Fail{}) {
		t.Fatalf("%s: %+v beside %v", short(units), fail, p)
	}
	return p
}

// fails asks that units are refused with want, and that there is no program beside it.
func fails(t *testing.T, want link.Fail, units ...api.Unit) {
	t.Helper()
	if p, fail := link.Link(units...); p != nil || fail != want {
		t.Errorf("%s: %+v beside %v, not %+v", short(units), fail, p, want)
	}
}

// says asks that the items of p are those that the sources say, one source a unit: in these the label words stand in expressions, as names.
func says(t *testing.T, p *link.Program, srcs ...string) {
	t.Helper()
	if p.Units() != len(srcs) {
		t.Errorf("%d units, not %d", p.Units(), len(srcs))
	}
	for n, s := range srcs {
		u := unitOf(s)
		if got := p.Items(n, text); !sameItems(got, u.Text) {
			t.Errorf("unit %d: Text is %s, not %s", n, short(got), short(u.Text))
		}
		if got := p.Items(n, data); !sameItems(got, u.Data) {
			t.Errorf("unit %d: Data is %s, not %s", n, short(got), short(u.Data))
		}
	}
}

// finds asks what the name means in that unit: the label with the number want, or none, if want is below 0.
func finds(t *testing.T, p *link.Program, unit int, name string, want int) {
	t.Helper()
	n, ok := p.Find(unit, name)
	if ok != (want >= 0) || ok && n != want || !ok && n != 0 {
		t.Errorf("Find(%d, %q): %d, %v; not %d", unit, name, n, ok, want)
	}
}

// The chapter's words, gone anew in another way: slow, for few and small units.

// place is an equ: the number of its unit, and its own there.
type place struct {
	unit, equ int
}

// told is what the chapter says of units.
type told struct {
	units  []api.Unit
	labels []link.Label
	equs   map[place]api.Lin
}

func tell(units []api.Unit) told {
	c := told{units: units, equs: map[place]api.Lin{}}
	for n, u := range units {
		for i, x := range u.Text {
			if x.Kind == api.Label {
				c.labels = append(c.labels, link.Label{Unit: n, Section: text, Item: i, Name: x.Name})
			}
		}
		for i, x := range u.Data {
			if x.Kind == api.Label {
				c.labels = append(c.labels, link.Label{Unit: n, Section: data, Item: i, Name: x.Name})
			}
		}
	}
	return c
}

// own answers what the name is in that unit alone: a label's number, or an equ; -1 and false, if it is neither.
func (c told) own(unit int, name string) (int, place, bool) {
	for number, l := range c.labels {
		if l.Unit == unit && l.Name == name {
			return number, place{}, true
		}
	}
	for i, q := range c.units[unit].Equs {
		if q.Name == name {
			return -1, place{unit, i}, true
		}
	}
	return -1, place{}, false
}

// means answers the same, of a global, too.
func (c told) means(unit int, name string) (int, place, bool) {
	if number, at, ok := c.own(unit, name); ok {
		return number, at, true
	}
	for n, u := range c.units {
		if slices.Contains(u.Globals, name) {
			return c.own(n, name)
		}
	}
	return -1, place{}, false
}

// leads answers the equs to which that one's names lead, by any way.
func (c told) leads(from place) map[place]bool {
	met := map[place]bool{}
	todo := []place{from}
	for len(todo) > 0 {
		at := todo[0]
		todo = todo[1:]
		for _, t := range c.units[at.unit].Equs[at.equ].E.Terms {
			if number, to, ok := c.means(at.unit, t.Name); ok && number < 0 && !met[to] {
				met[to] = true
				todo = append(todo, to)
			}
		}
	}
	return met
}

// fail answers how Link must fail.
func (c told) fail() link.Fail {
	if len(c.units) == 0 {
		return link.Fail{Why: api.ErrEntry}
	}
	if len(c.units) > 64 {
		return link.Fail{Why: api.ErrMany}
	}
	for n, u := range c.units {
		if unit.Right(u) != api.OK {
			return link.Fail{Why: api.ErrUnit, Unit: n}
		}
	}
	for n, u := range c.units {
		for _, g := range u.Globals {
			for _, ahead := range c.units[:n] {
				if slices.Contains(ahead.Globals, g) {
					return link.Fail{Why: api.ErrDup, Unit: n, Name: g}
				}
			}
		}
	}
	for n, u := range c.units {
		var names []string
		for _, x := range slices.Concat(u.Text, u.Data) {
			for _, t := range x.E.Terms {
				names = append(names, t.Name)
			}
		}
		for _, q := range u.Equs {
			for _, t := range q.E.Terms {
				names = append(names, t.Name)
			}
		}
		for _, name := range names {
			if _, _, ok := c.means(n, name); !ok {
				return link.Fail{Why: api.ErrUndef, Unit: n, Name: name}
			}
		}
	}
	for n, u := range c.units {
		for i, q := range u.Equs {
			if c.leads(place{n, i})[place{n, i}] {
				return link.Fail{Why: api.ErrCycle, Unit: n, Name: q.Name}
			}
		}
	}
	return link.Fail{}
}

// solved answers an expression of that unit in terms of label words.
func (c told) solved(unit int, x api.Lin) api.Lin {
	coefs, n := map[string]uint32{}, x.Const
	for _, t := range x.Terms {
		number, at, _ := c.means(unit, t.Name)
		if number >= 0 {
			coefs[numbered("L", number)] += t.Coef
			continue
		}
		e, ok := c.equs[at]
		if !ok {
			e = c.solved(at.unit, c.units[at.unit].Equs[at.equ].E)
			c.equs[at] = e
		}
		n += t.Coef * e.Const
		for _, u := range e.Terms {
			coefs[u.Name] += t.Coef * u.Coef
		}
	}
	return fromCoefs(coefs, n)
}

func fromCoefs(coefs map[string]uint32, n uint32) api.Lin {
	x := api.Lin{Const: n}
	for _, name := range slices.Sorted(maps.Keys(coefs)) {
		if coefs[name] != 0 {
			x.Terms = append(x.Terms, api.Term{Name: name, Coef: coefs[name]})
		}
	}
	return x
}

func (c told) items(unit, section int) []api.Item {
	l := c.units[unit].Text
	if section == data {
		l = c.units[unit].Data
	}
	var out []api.Item
	for _, x := range l {
		x.E = c.solved(unit, x.E)
		out = append(out, x)
	}
	return out
}

// spans counts by the operations' numbers: jmp, call, jz and jnz are 40 to 43.
func (c told) spans() int {
	n := 0
	for _, u := range c.units {
		for _, x := range u.Text {
			if x.Kind == api.Code && x.Inst.Op >= 40 {
				n++
			}
		}
	}
	return n
}

// agrees holds all that Link and its program answer of units against the chapter said anew, and answers how Link fails.
func agrees(t *testing.T, units []api.Unit) api.Errno {
	t.Helper()
	c := tell(units)
	p, fail := link.Link(units...)
	if want := c.fail(); fail != want || (p == nil) != (want.Why != api.OK) {
		t.Fatalf("%+v: %+v beside %v, not %+v", units, fail, p, want)
	}
	if p == nil {
		return fail.Why
	}
	if p.Units() != len(units) || !slices.Equal(p.Labels(), c.labels) || p.Spans() != c.spans() {
		t.Fatalf("%+v: %d units, the labels %+v, %d spans", units, p.Units(), p.Labels(), p.Spans())
	}
	for n := range units {
		for section := range 2 {
			if got, want := p.Items(n, section), c.items(n, section); !sameItems(got, want) {
				t.Fatalf("%+v: Items(%d, %d): %+v, not %+v", units, n, section, got, want)
			}
		}
		for _, name := range append(slices.Clone(drawnNames), "q", "", "r1") {
			want, _, ok := c.means(n, name)
			if !ok {
				want = -1
			}
			finds(t, p, n, name, want)
		}
	}
	return api.OK
}

// Drawn units.

// Names of which some look like label words, as these may be names of one's own.
var drawnNames = []string{"B", "E0", "E1", "L", "L0", "L1", "L2", "L10", "_", "a", "b", "c", "r8"}

// drawer draws units.
type drawer struct {
	*rand.Rand
	// each name that a unit gives is global with that chance, of 100.
	global int
	// strange is the chance, of 1000, that an expression has a name that may be nobody's.
	strange int
	// back is the chance, of 100, that an equ leads to any equ, its own way included.
	back int
}

func (d drawer) chance(n, of int) bool {
	return d.Intn(of) < n
}

func (d drawer) coef() uint32 {
	edges := []uint32{1, 1, 1, 2, 3, 1 << 16, 1 << 31, most, most, most - 1}
	return edges[d.Intn(len(edges))]
}

// lin answers a right Lin with some of names.
func (d drawer) lin(names []string) api.Lin {
	coefs := map[string]uint32{}
	for range d.Intn(4) {
		if len(names) > 0 {
			coefs[names[d.Intn(len(names))]] += d.coef()
		}
	}
	if d.chance(d.strange, 1000) {
		coefs[drawnNames[d.Intn(len(drawnNames))]] += d.coef()
	}
	return fromCoefs(coefs, d.coef()*uint32(d.Intn(2)))
}

// given are the names that a drawn unit gives.
type given struct {
	labels, equs, globals []string
}

// units answers right units: first the names of each are drawn, then expressions of names that mean something there.
func (d drawer) units() []api.Unit {
	var all []given
	shared := map[string]int{}
	for n := range 1 + d.Intn(4) {
		var g given
		for _, i := range d.Perm(len(drawnNames))[:d.Intn(7)] {
			name := drawnNames[i]
			if d.chance(50, 100) {
				g.labels = append(g.labels, name)
			} else {
				g.equs = append(g.equs, name)
			}
			_, taken := shared[name]
			if d.chance(d.global, 100) && (!taken || d.chance(2, 100)) {
				g.globals = append(g.globals, name)
				shared[name] = n
			}
		}
		slices.Sort(g.globals)
		all = append(all, g)
	}
	var out []api.Unit
	for n, g := range all {
		out = append(out, d.unit(n, g, all))
	}
	return out
}

func (d drawer) unit(n int, g given, all []given) api.Unit {
	own := slices.Concat(g.labels, g.equs)
	names := slices.Clone(own)
	var ahead []string
	for m, other := range all {
		for _, name := range other.globals {
			if m != n && !slices.Contains(own, name) {
				names = append(names, name)
				// A way that leads to labels and to units ahead alone does not come back.
				if m < n || slices.Contains(other.labels, name) {
					ahead = append(ahead, name)
				}
			}
		}
	}
	u := api.Unit{Globals: g.globals}
	ahead = append(ahead, g.labels...)
	for _, name := range g.equs {
		if d.chance(d.back, 100) {
			u.Equs = append(u.Equs, api.Equ{Name: name, E: d.lin(names)})
		} else {
			u.Equs = append(u.Equs, api.Equ{Name: name, E: d.lin(ahead)})
		}
		ahead = append(ahead, name)
	}
	d.Shuffle(len(u.Equs), func(i, j int) { u.Equs[i], u.Equs[j] = u.Equs[j], u.Equs[i] })
	labels := g.labels
	for range len(labels) + d.Intn(6) {
		if len(labels) > 0 && d.chance(50, 100) {
			if d.chance(60, 100) {
				u.Text = append(u.Text, label(labels[0]))
			} else {
				u.Data = append(u.Data, label(labels[0]))
			}
			labels = labels[1:]
			continue
		}
		d.thing(&u, names)
	}
	for _, name := range labels {
		u.Text = append(u.Text, label(name))
	}
	return u
}

// thing puts an item that is no label into u.
func (d drawer) thing(u *api.Unit, names []string) {
	code := func(op, a int, e api.Lin) {
		u.Text = append(u.Text, api.Item{Kind: api.Code, Inst: api.Inst{Op: op, A: a}, E: e})
	}
	switch d.Intn(10) {
	case 0:
		code(40+d.Intn(2), 0, d.lin(names))
	case 1:
		code(42+d.Intn(2), d.Intn(8), d.lin(names))
	case 2:
		code(38+d.Intn(2), d.Intn(8), d.lin(names))
	case 3:
		u.Text = append(u.Text, api.Item{Kind: api.Code, Inst: api.Inst{Op: 36, A: d.Intn(8), N: int32(d.Intn(256) - 128)}})
	case 4:
		u.Text = append(u.Text, api.Item{Kind: api.Align, N: 1 << d.Intn(9)}, api.Item{Kind: api.Pool})
	case 5:
		u.Data = append(u.Data, api.Item{Kind: api.Byte, N: d.Intn(384) - 128}, api.Item{Kind: api.Space, N: d.Intn(100)})
	default:
		u.Data = append(u.Data, worded(d.lin(names)))
	}
}
