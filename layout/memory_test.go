package layout_test

import (
	"fmt"
	"runtime"
	"slices"
	"sync"
	"testing"
	"weak"

	"spandrel/api"
	"spandrel/layout"
	"spandrel/link"
)

// R2: what is handed in is not changed and not kept, and answers are new memory.

// sample is a program with forms for it.
type sample struct {
	p     *link.Program
	forms []int
}

func samples() []sample {
	return []sample{
		{linked(""), nil},
		{linked("", "nop", ""), nil},
		{linked("a: jmp a"), []int{2}},
		{linked("ldp r1, =1\nsection data\nx: byte 1"), nil},
		{linked(lines("a: ldp r1, =a", "jmp b", "pool", "b: ldp r4, =a", "jz r1, 5", "section data", "word a, b", "align 8", "c:")), []int{4, 1}},
		{linked(
			lines("a: ldp r1, =e+a", "call b", "equ e, b-1", "global a", "section data", "x: word a"),
			"pool",
			lines("b: ldp r1, =f", "ldp r1, =b", "pool", "align 16", "ldp r2, =f+a", "jnz r2, f", "equ f, a+b+1", "global b", "global f", "section data", "word f, b", "space 9"),
		), []int{1, 4}},
	}
}

// says tells all that p answers.
func says(p *link.Program) string {
	s := fmt.Sprintf("%d %d %+v", p.Units(), p.Spans(), p.Labels())
	for n := range p.Units() {
		s += fmt.Sprintf("%+v %+v", p.Items(n, text), p.Items(n, data))
	}
	return s
}

// answers tells all that is answered of p and l.
func answers(p *link.Program, l layout.Layout) string {
	s := fmt.Sprintf("%+v %v", l, layout.Judge(p, l))
	for n := range p.Units() {
		for i, x := range p.Items(n, text) {
			s += fmt.Sprintf("%+v %+v %d", disp(p, l, n, i), dist(p, l, n, i), layout.Value(l, x.E))
		}
	}
	return s
}

// lists answers all lists of numbers of l.
func lists(l layout.Layout) [][]int {
	return slices.Concat(l.Text, l.Data, [][]int{l.Pools, l.Labels})
}

// scribble writes over all that stands in l, its room too.
func scribble(l layout.Layout) {
	for _, x := range lists(l) {
		scribbleNumbers(x)
	}
	for _, all := range [][][]int{l.Text, l.Data} {
		all = all[:cap(all)]
		for i := range all {
			scribbleNumbers(all[i])
			all[i] = []int{77}
		}
	}
}

func scribbleNumbers(l []int) {
	l = l[:cap(l)]
	for i := range l {
		l[i] = 77
	}
}

// copied answers l in memory of its own.
func copied(l layout.Layout) layout.Layout {
	out := l
	out.Text, out.Data = nil, nil
	for _, x := range l.Text {
		out.Text = append(out.Text, slices.Clone(x))
	}
	for _, x := range l.Data {
		out.Data = append(out.Data, slices.Clone(x))
	}
	out.Pools, out.Labels = slices.Clone(l.Pools), slices.Clone(l.Labels)
	return out
}

func TestWhatIsHandedInStays(t *testing.T) {
	for _, c := range samples() {
		before := says(c.p)
		// Forms with room behind them, which is neither read nor written.
		room := slices.Concat(c.forms, []int{3, 99, -1})
		forms := room[:len(c.forms)]
		l := of(t, c.p, forms...)
		if direct, why := layout.Of(c.p, forms); why != api.OK || !same(direct, l) {
			t.Errorf("%v: %+v", why, direct)
		}
		if !slices.Equal(room, slices.Concat(c.forms, []int{3, 99, -1})) {
			t.Errorf("the forms %v have become %v", c.forms, room)
		}
		kept := copied(l)
		want := answers(c.p, l)
		if !same(l, kept) {
			t.Errorf("%s has become %s", short(kept), short(l))
		}
		scribble(l)
		if says(c.p) != before {
			t.Errorf("%s has become %s", short(before), short(says(c.p)))
		}
		if got := answers(c.p, of(t, c.p, c.forms...)); got != want {
			t.Errorf("%s has become %s", short(want), short(got))
		}
	}
}

// The lists of a Layout that is asked have room that is neither read nor written.
func TestRoomOfALayout(t *testing.T) {
	for _, c := range samples() {
		l := of(t, c.p, c.forms...)
		want := answers(c.p, l)
		roomy := copied(l)
		for _, all := range []*[]int{&roomy.Pools, &roomy.Labels} {
			*all = withRoom(*all)
		}
		for _, all := range [][][]int{roomy.Text, roomy.Data} {
			for i := range all {
				all[i] = withRoom(all[i])
			}
		}
		if got := answers(c.p, roomy); got != want {
			t.Errorf("%s, not %s", short(got), short(want))
		}
		for _, x := range lists(roomy) {
			if x = x[:cap(x)]; x[len(x)-1] != 99 {
				t.Errorf("%v", x)
			}
		}
	}
}

// withRoom answers l with two numbers in its room.
func withRoom(l []int) []int {
	out := make([]int, len(l)+2)
	copy(out, l)
	out[len(l)], out[len(l)+1] = 99, 99
	return out[:len(l)]
}

func TestFormsAreNotKept(t *testing.T) {
	for _, c := range samples() {
		forms := slices.Clone(c.forms)
		l, _ := layout.Of(c.p, forms)
		want := answers(c.p, l)
		for i := range forms {
			forms[i] = 3
		}
		if got := answers(c.p, l); got != want {
			t.Errorf("%s has become %s", short(want), short(got))
		}
		scribble(l)
		if !slices.Equal(forms, slices.Repeat([]int{3}, len(forms))) {
			t.Errorf("the forms have become %v", forms)
		}
	}
}

func TestValueChangesNothing(t *testing.T) {
	l := of(t, linked("nop\na: nop\nb: nop"))
	room := []api.Term{{Name: "L0", Coef: 3}, {Name: "L1", Coef: 1}, {Name: "L1", Coef: 77}}
	x := api.Lin{Terms: room[:2], Const: 4}
	if got := layout.Value(l, x); got != 9 {
		t.Errorf("%d", got)
	}
	if want := []api.Term{{Name: "L0", Coef: 3}, {Name: "L1", Coef: 1}, {Name: "L1", Coef: 77}}; !slices.Equal(room, want) || x.Const != 4 {
		t.Errorf("%+v, %+v", x, room)
	}
}

func TestAnswersAreNewMemory(t *testing.T) {
	for _, c := range samples() {
		first, second := of(t, c.p, c.forms...), of(t, c.p, c.forms...)
		want := copied(second)
		scribble(first)
		if !same(second, want) {
			t.Errorf("%s has become %s", short(want), short(second))
		}
		scribble(second)
		if third := of(t, c.p, c.forms...); !same(third, want) {
			t.Errorf("%s has become %s", short(want), short(third))
		}
	}
}

func TestListsOfOneAnswerShareNoMemory(t *testing.T) {
	for _, c := range samples() {
		want := lists(of(t, c.p, c.forms...))
		for n := range want {
			got := lists(of(t, c.p, c.forms...))
			scribbleNumbers(got[n])
			_ = append(got[n], 77, 77)
			got[n] = want[n]
			if !slices.EqualFunc(got, want, slices.Equal[[]int]) {
				t.Errorf("list %d is another's, too: %v, not %v", n, got, want)
			}
		}
		l := of(t, c.p, c.forms...)
		_, _ = append(l.Text, []int{77}), append(l.Data, []int{77})
		if !same(l, of(t, c.p, c.forms...)) {
			t.Errorf("%s", short(l))
		}
	}
}

// asked answers what is told of a program that nobody else holds, and whether that is still held.
func asked() (layout.Layout, answer, func() bool) {
	p := linked(lines("a: ldp r1, =a", "jmp a", "pool", "ldp r3, =5"))
	w := weak.Make(p)
	l, _ := layout.Of(p, []int{1})
	layout.Judge(p, l)
	disp(p, l, 0, 2)
	return l, dist(p, l, 0, 1), func() bool { return w.Value() != nil }
}

func TestTheProgramIsNotKept(t *testing.T) {
	l, d, isHeld := asked()
	runtime.GC()
	runtime.GC()
	if isHeld() {
		t.Error("the program is held")
	}
	if l.Code != 20 || d != (answer{3, true}) {
		t.Errorf("%+v, %+v", l, d)
	}
}

// R4: nil and empty lists mean the same.
func TestNilAndEmptyLists(t *testing.T) {
	p := program(api.Unit{Text: []api.Item{}, Data: []api.Item{}}, api.Unit{Text: []api.Item{{Kind: api.Code, Inst: api.Inst{Op: 39}, E: api.Lin{Terms: []api.Term{}}}}})
	a, why := layout.Of(p, nil)
	b, also := layout.Of(p, []int{})
	if why != api.OK || also != api.OK || !same(a, b) {
		t.Errorf("%v, %v: %+v, %+v", why, also, a, b)
	}
	if layout.Value(a, api.Lin{Const: 3}) != 3 || layout.Value(a, api.Lin{Terms: []api.Term{}, Const: 3}) != 3 {
		t.Error("a number is not itself")
	}
	agrees(t, p, []int{})
}

// What was told in one call, or refused, does not change the next one.
func TestCallsDoNotHangOnEachOther(t *testing.T) {
	var want []string
	for range 3 {
		for i, c := range samples() {
			layout.Of(nil, c.forms)
			layout.Of(c.p, append(slices.Clone(c.forms), 3))
			layout.Judge(nil, layout.Layout{})
			got := answers(c.p, of(t, c.p, c.forms...))
			if len(want) <= i {
				want = append(want, got)
			}
			if got != want[i] {
				t.Errorf("%s, then %s", short(want[i]), short(got))
			}
		}
	}
}

// R9: several goroutines may ask one program and one layout.
func TestManyAskOneProgram(t *testing.T) {
	c := samples()[5]
	l := of(t, c.p, c.forms...)
	want := answers(c.p, l)
	var wait sync.WaitGroup
	got := make([]string, 8)
	for n := range got {
		wait.Add(1)
		go func() {
			defer wait.Done()
			for range 50 {
				m, _ := layout.Of(c.p, c.forms)
				scribble(m)
				got[n] = answers(c.p, l)
			}
		}()
	}
	wait.Wait()
	for _, s := range got {
		if s != want {
			t.Errorf("%s, not %s", short(s), short(want))
		}
	}
}
