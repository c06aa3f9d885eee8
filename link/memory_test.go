package link_test

import (
	"fmt"
	"runtime"
	"slices"
	"strings"
	"sync"
	"testing"
	"unsafe"
	"weak"

	"spandrel/api"
	"spandrel/link"
)

// R2: what is handed in is not changed and not kept, and answers are new memory.

// someUnits answers lists of units that are programs, and lists that are none.
func someUnits() [][]api.Unit {
	return [][]api.Unit{
		nil,
		{{}},
		unitsOf("a: jmp a"),
		unitsOf("", "b: nop"),
		unitsOf("x: jmp b+x\nequ e, 2*x+f\nli r1, e\nli r2, e\nsection data\nd: word e, x, d, e", "b: jz r1, x\nx: call b\nglobal b\nequ f, x-b\nequ h, f\nglobal f\nld: ldp r1, =h"),
		unitsOf("a: global a", "a: global a"),
		unitsOf("a: jmp a", "jmp nobody"),
		unitsOf("equ a, b\nglobal a", "equ b, a\nglobal b"),
		{unitOf("a: jmp a"), wrong()},
		make([]api.Unit, 65),
	}
}

func roomyLin(x api.Lin) api.Lin {
	terms := append(slices.Clone(x.Terms), api.Term{Name: "room", Coef: 7}, api.Term{Name: "a", Coef: 8})
	return api.Lin{Terms: terms[:len(x.Terms)], Const: x.Const}
}

func roomyItems(l []api.Item) []api.Item {
	var out []api.Item
	for _, x := range l {
		x.E = roomyLin(x.E)
		out = append(out, x)
	}
	out = append(out, label("room"), worded(api.Lin{Terms: []api.Term{{Name: "room", Coef: 1}}}), api.Item{Kind: 99})
	return out[:len(l)]
}

// roomy answers units with room behind each of their lists; what lies there would be refused, or change what is answered.
func roomy(units []api.Unit) []api.Unit {
	var out []api.Unit
	for _, u := range units {
		var v api.Unit
		v.Text, v.Data = roomyItems(u.Text), roomyItems(u.Data)
		for _, q := range u.Equs {
			v.Equs = append(v.Equs, api.Equ{Name: q.Name, E: roomyLin(q.E)})
		}
		v.Equs = append(v.Equs, api.Equ{Name: "room", E: api.Lin{Terms: []api.Term{{Name: "room", Coef: 1}}}})[:len(u.Equs)]
		v.Globals = append(slices.Clone(u.Globals), "room", "room")[:len(u.Globals)]
		out = append(out, v)
	}
	out = append(out, wrong(), api.Unit{Text: []api.Item{label("room")}})
	return out[:len(units)]
}

// all answers l with its room.
func all[T any](l []T) []T {
	return l[:cap(l)]
}

// memory tells all that stands in units, their room too.
func memory(units []api.Unit) string {
	var b strings.Builder
	lin := func(x api.Lin) { fmt.Fprintf(&b, "%+v %d;", all(x.Terms), x.Const) }
	for _, u := range all(units) {
		for _, l := range [][]api.Item{all(u.Text), all(u.Data)} {
			for _, x := range l {
				fmt.Fprintf(&b, "%d %q %+v %d ", x.Kind, x.Name, x.Inst, x.N)
				lin(x.E)
			}
		}
		for _, q := range all(u.Equs) {
			fmt.Fprintf(&b, "%q ", q.Name)
			lin(q.E)
		}
		fmt.Fprintf(&b, "%q\n", all(u.Globals))
	}
	return b.String()
}

func scribbleItems(l []api.Item) {
	for i, x := range all(l) {
		scribbleTerms(x.E.Terms)
		all(l)[i] = api.Item{Kind: 77, Name: "?", N: 77}
	}
}

func scribbleTerms(l []api.Term) {
	for i := range all(l) {
		all(l)[i] = api.Term{Name: "?", Coef: 77}
	}
}

// scribble writes over all that stands in units, their room too.
func scribble(units []api.Unit) {
	for i, u := range all(units) {
		scribbleItems(u.Text)
		scribbleItems(u.Data)
		for j, q := range all(u.Equs) {
			scribbleTerms(q.E.Terms)
			all(u.Equs)[j] = api.Equ{Name: "?"}
		}
		for j := range all(u.Globals) {
			all(u.Globals)[j] = "?"
		}
		all(units)[i] = wrong()
	}
}

// answers tells all that p answers.
func answers(p *link.Program) string {
	if p == nil {
		return "none"
	}
	s := fmt.Sprintf("%d %d %+v", p.Units(), p.Spans(), p.Labels())
	for n := range p.Units() {
		s += fmt.Sprintf("%+v %+v", p.Items(n, text), p.Items(n, data))
		for _, name := range append(slices.Clone(drawnNames), "d", "e", "f", "h", "x", "ld") {
			number, ok := p.Find(n, name)
			s += fmt.Sprint(number, ok)
		}
	}
	return s
}

func TestWhatIsHandedInStays(t *testing.T) {
	for _, units := range someUnits() {
		want, wantFail := link.Link(units...)
		given := roomy(units)
		before := memory(given)
		p, fail := link.Link(given...)
		if p != nil {
			answers(p)
		}
		if memory(given) != before {
			t.Errorf("%s is changed", short(units))
		}
		if fail != wantFail || answers(p) != answers(want) {
			t.Errorf("%s: %+v, not %+v; or %s: the room is read", short(units), fail, wantFail, short(answers(p)))
		}
		scribble(given)
		if fail != wantFail || answers(p) != answers(want) {
			t.Errorf("%s: %s, not %s: the program hangs on what was handed in", short(units), short(answers(p)), short(answers(want)))
		}
	}
}

func TestAnswersAreNewMemory(t *testing.T) {
	for _, units := range someUnits() {
		p, _ := link.Link(units...)
		if p == nil {
			continue
		}
		other := linked(t, units...)
		given, want := memory(units), answers(p)
		clear(all(p.Labels()))
		for n := range units {
			scribbleItems(p.Items(n, text))
			scribbleItems(p.Items(n, data))
		}
		if got := answers(p); got != want || answers(other) != want {
			t.Errorf("%s has become %s", short(want), short(got))
		}
		if memory(units) != given {
			t.Errorf("%s: the units are changed", short(units))
		}
	}
}

func TestListsOfOneAnswerShareNoMemory(t *testing.T) {
	for _, units := range someUnits() {
		p, _ := link.Link(units...)
		if p == nil {
			continue
		}
		for n := range units {
			for section := range 2 {
				want := p.Items(n, section)
				for i := range want {
					got := p.Items(n, section)
					scribbleTerms(got[i].E.Terms)
					_ = append(got[i].E.Terms, api.Term{Name: "?"}, api.Term{Name: "?"})
					got[i].E = want[i].E
					if !sameItems(got, want) {
						t.Errorf("%s: the terms of the item %d are others' too", short(want), i)
					}
				}
			}
		}
	}
}

// A name may be cut out of a long text, which neither a program nor a Fail may hold on to.
func TestNamesHoldOnToNoText(t *testing.T) {
	long := strings.Repeat("first second third other ", 40)
	cut := strings.Fields(long)
	first, second, third, other := cut[0], cut[1], cut[2], cut[3]
	term := func(name string) api.Lin { return api.Lin{Terms: []api.Term{{Name: name, Coef: 1}}} }
	within := func(s string) bool {
		from, at := uintptr(unsafe.Pointer(unsafe.StringData(long))), uintptr(unsafe.Pointer(unsafe.StringData(s)))
		return s != "" && at >= from && at < from+uintptr(len(long))
	}
	u := api.Unit{Text: []api.Item{label(first)}, Data: []api.Item{label(second), worded(term(first)), worded(term(third))}, Equs: []api.Equ{{Name: third, E: term(second)}}, Globals: []string{first}}
	p := linked(t, u)
	var got []string
	for _, l := range p.Labels() {
		got = append(got, l.Name)
	}
	for _, x := range slices.Concat(p.Items(0, text), p.Items(0, data)) {
		got = append(got, x.Name)
		for _, t := range x.E.Terms {
			got = append(got, t.Name)
		}
	}
	for _, units := range [][]api.Unit{
		{u, u},
		{{Data: []api.Item{worded(term(other))}}},
		{{Equs: []api.Equ{{Name: third, E: term(third)}}}},
	} {
		p, fail := link.Link(units...)
		if p != nil || fail.Name == "" {
			t.Errorf("%+v", fail)
		}
		got = append(got, fail.Name)
	}
	for _, s := range got {
		if within(s) {
			t.Errorf("%q lies within the text it was cut out of", s)
		}
	}
}

// linkedAway answers a program of a unit that nobody else holds, and tells of the unit's parts whether they are still held.
func linkedAway(t *testing.T) (*link.Program, map[string]func() bool) {
	const first, second, third = "first", "second", "third"
	bytes := new([64]byte)
	copy(bytes[:], first+second+third)
	cut := func(s string) string {
		at := strings.Index(string(bytes[:]), s)
		return unsafe.String(&bytes[at], len(s))
	}
	term := func(name string) api.Lin { return api.Lin{Terms: []api.Term{{Name: cut(name), Coef: 1}}} }
	u := api.Unit{
		Text:    []api.Item{label(cut(first))},
		Data:    []api.Item{label(cut(second)), worded(term(first)), worded(term(third))},
		Equs:    []api.Equ{{Name: cut(third), E: term(second)}},
		Globals: []string{cut(first), cut(third)},
	}
	held := map[string]func() bool{
		"the names": holding(bytes), "Text": holding(&u.Text[0]), "Data": holding(&u.Data[0]), "the terms": holding(&u.Data[1].E.Terms[0]),
		"Equs": holding(&u.Equs[0]), "an equ's terms": holding(&u.Equs[0].E.Terms[0]), "Globals": holding(&u.Globals[0]),
	}
	return linked(t, u), held
}

// holding answers a function that tells whether what p points to is still held by anybody.
func holding[T any](p *T) func() bool {
	w := weak.Make(p)
	return func() bool { return w.Value() != nil }
}

func TestAProgramKeepsNothingOfTheUnits(t *testing.T) {
	p, held := linkedAway(t)
	runtime.GC()
	runtime.GC()
	for part, isHeld := range held {
		if isHeld() {
			t.Errorf("%s are held", part)
		}
	}
	says(t, p, "first:\nsection data\nsecond: word L0, L1")
}

// R4: nil and empty lists mean the same.
func TestNilAndEmptyLists(t *testing.T) {
	none := api.Lin{Terms: []api.Term{}, Const: 3}
	u := api.Unit{Text: []api.Item{}, Data: []api.Item{worded(none), worded(api.Lin{Terms: []api.Term{{Name: "e", Coef: 2}}})}, Equs: []api.Equ{{Name: "e", E: none}}, Globals: []string{}}
	p := linked(t, u, api.Unit{Text: []api.Item{}, Data: []api.Item{}, Equs: []api.Equ{}, Globals: []string{}})
	says(t, p, "section data\nword 3, 6", "")
}

// A refused call changes nothing that a later one tells.
func TestCallsDoNotHangOnEachOther(t *testing.T) {
	var want []string
	for range 3 {
		for i, units := range someUnits() {
			p, fail := link.Link(units...)
			got := fmt.Sprintf("%+v ", fail) + answers(p)
			if len(want) <= i {
				want = append(want, got)
			}
			if got != want[i] {
				t.Errorf("%s, then %s", short(want[i]), short(got))
			}
		}
	}
}

// R9: several goroutines may ask one program.
func TestManyAskOneProgram(t *testing.T) {
	p := linked(t, someUnits()[4]...)
	want := answers(p)
	var wait sync.WaitGroup
	got := make([]string, 8)
	for n := range got {
		wait.Add(1)
		go func() {
			defer wait.Done()
			for range 50 {
				scribbleItems(p.Items(0, data))
				got[n] = answers(p)
			}
		}()
	}
	wait.Wait()
	for _, s := range got {
		if s != want {
			t.Errorf("%s, not %s", short(s), short(want))
		}
	}
}
