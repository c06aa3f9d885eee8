package image_test

import (
	"bytes"
	"fmt"
	"runtime"
	"slices"
	"sync"
	"testing"
	"weak"

	"spandrel/api"
	"spandrel/image"
	"spandrel/layout"
	"spandrel/link"
)

// R2: what is handed in is not changed and not kept, and answers are new memory.

// sample is a program with forms by which it has an image.
type sample struct {
	p     *link.Program
	forms []int
}

func samples() []sample {
	return []sample{
		{linked(""), nil},
		{linked("", "halt", ""), nil},
		{linked("a: jmp a"), []int{2}},
		{linked("ldp r1, =1\nsection data\nx: byte 1"), nil},
		{linked(lines("a: ldp r1, =a", "jmp b", "pool", "b: ldp r4, =a", "jz r1, 5", "section data", "word a, b", "align 8", "c:")), []int{4, 1}},
		{linked(
			lines("a: ldp r1, =e+a", "call b", "equ e, b-1", "global a", "section data", "x: word a"),
			"pool",
			lines("b: ldp r1, =f", "ldp r1, =b", "pool", "align 16", "ldp r2, =f+a", "jnz r2, f", "li r3, f", "equ f, a+b+1", "global b", "global f", "section data", "word f, b", "space 9"),
		), []int{1, 4}},
	}
}

// says tells all that p answers.
func says(p *link.Program) string {
	s := fmt.Sprintf("%d %d %+v", p.Units(), p.Spans(), p.Labels())
	for n := range p.Units() {
		s += fmt.Sprintf("%+v %+v", p.Items(n, text), p.Items(n, data))
	}
	return s
}

// answers tells all that m answers.
func answers(m *image.Image) string {
	s := fmt.Sprintf("% x %+v %v", m.Bytes(), m.Layout(), m.Forms())
	for n := range m.Program().Units() {
		for i := range m.Program().Items(n, text) {
			inst, ok := m.Inst(n, i)
			s += fmt.Sprintf("%+v %v", inst, ok)
		}
	}
	for at := range len(m.Bytes()) {
		place, ok := m.Where(at)
		s += fmt.Sprintf("%+v %v", place, ok)
	}
	return s
}

// lists answers all lists of numbers of l.
func lists(l layout.Layout) [][]int {
	return slices.Concat(l.Text, l.Data, [][]int{l.Pools, l.Labels})
}

// scribble writes over l, its room too.
func scribble[T int | byte](l []T) {
	l = l[:cap(l)]
	for i := range l {
		l[i] = 77
	}
}

// scribbleLayout writes over all that stands in l, its room too.
func scribbleLayout(l layout.Layout) {
	for _, x := range lists(l) {
		scribble(x)
	}
	for _, all := range [][][]int{l.Text, l.Data} {
		all = all[:cap(all)]
		for i := range all {
			scribble(all[i])
			all[i] = []int{77}
		}
	}
}

// scribbleAll writes over all lists that m hands out.
func scribbleAll(m *image.Image) {
	scribble(m.Bytes())
	scribble(m.Forms())
	scribbleLayout(m.Layout())
}

func TestWhatIsHandedInStays(t *testing.T) {
	for _, c := range samples() {
		before := says(c.p)
		// Forms with room behind them, which is neither read nor written.
		room := slices.Concat(c.forms, []int{3, 99, -1})
		m := with(t, c.p, room[:len(c.forms)]...)
		if direct, why := image.With(c.p, room[:len(c.forms)]); why != api.OK || answers(direct) != answers(m) {
			t.Errorf("%v: %s", why, short(answers(direct)))
		}
		scribbleAll(m)
		scribbleAll(build(t, c.p))
		image.With(c.p, room)
		if !slices.Equal(room, slices.Concat(c.forms, []int{3, 99, -1})) {
			t.Errorf("the forms %v have become %v", c.forms, room)
		}
		if says(c.p) != before {
			t.Errorf("%s has become %s", short(before), short(says(c.p)))
		}
		holds(t, m, c.p, c.forms)
	}
}

func TestFormsAreNotKept(t *testing.T) {
	for _, c := range samples() {
		forms := append(slices.Clone(c.forms), 4)[:len(c.forms)]
		m, _ := image.With(c.p, forms)
		scribble(forms)
		holds(t, m, c.p, c.forms)
		scribble(m.Forms())
		if !slices.Equal(forms, slices.Repeat([]int{77}, len(forms))) {
			t.Errorf("the forms have become %v", forms)
		}
	}
}

// What one call answers is written over; what the others answered, and answer, stays.
func TestAnswersAreNewMemory(t *testing.T) {
	for _, c := range samples() {
		m, other := with(t, c.p, c.forms...), with(t, c.p, c.forms...)
		want := answers(m)
		b, l, forms := m.Bytes(), m.Layout(), m.Forms()
		told := fmt.Sprintf("% x %+v %v", b, l, forms)
		scribbleAll(m)
		_, _ = append(m.Bytes(), 77), append(m.Forms(), 77)
		if got := fmt.Sprintf("% x %+v %v", b, l, forms); got != told {
			t.Errorf("%s has become %s", short(told), short(got))
		}
		scribble(b)
		scribble(forms)
		scribbleLayout(l)
		for _, m := range []*image.Image{m, other, with(t, c.p, c.forms...)} {
			if got := answers(m); got != want {
				t.Errorf("%s has become %s", short(want), short(got))
			}
		}
	}
}

func TestListsOfALayoutShareNoMemory(t *testing.T) {
	for _, c := range samples() {
		m := with(t, c.p, c.forms...)
		want := lists(m.Layout())
		for n := range want {
			got := lists(m.Layout())
			scribble(got[n])
			_ = append(got[n], 77, 77)
			got[n] = want[n]
			if !slices.EqualFunc(got, want, slices.Equal[[]int]) {
				t.Errorf("list %d is another's, too: %v, not %v", n, got, want)
			}
		}
		l := m.Layout()
		_, _ = append(l.Text, []int{77}), append(l.Data, []int{77})
		if !sameLayouts(l, m.Layout()) {
			t.Errorf("%s", short(l))
		}
	}
}

// The program is told itself, each time.
func TestTheProgramItself(t *testing.T) {
	p, same := linked("a: jmp a"), linked("a: jmp a")
	m, other := build(t, p), build(t, same)
	if m.Program() != p || m.Program() != p || other.Program() != same || with(t, p, 4).Program() != p {
		t.Error("it is another program")
	}
}

// asked answers what is told of a program and of forms that nobody else holds, and whether these, or the image, are still held.
func asked() (string, *image.Image, func() (forms, rest bool)) {
	p := linked(lines("a: jmp b", fill(100), "ldp r1, =a", "b: halt"))
	// With so much room that no other small thing can lie beside the forms and be held with them.
	forms := append(make([]int, 0, 64), 1)
	m, _ := image.With(p, forms)
	lost, _ := image.Build(linked("ldp r1, =5\na: jmp a"))
	first, image, program := weak.Make(&forms[0]), weak.Make(lost), weak.Make(lost.Program())
	told := answers(lost)
	return told, m, func() (bool, bool) { return first.Value() != nil, image.Value() != nil || program.Value() != nil }
}

func TestNothingIsKept(t *testing.T) {
	told, m, isHeld := asked()
	runtime.GC()
	runtime.GC()
	if forms, rest := isHeld(); forms || rest {
		t.Errorf("the forms are held: %v; an image or its program: %v", forms, rest)
	}
	if told == "" || !slices.Equal(m.Forms(), []int{1}) {
		t.Errorf("%v", m.Forms())
	}
}

// R4: nil and empty lists mean the same.
func TestNilAndEmptyLists(t *testing.T) {
	p := program(api.Unit{Text: []api.Item{}, Data: []api.Item{}}, api.Unit{Text: []api.Item{code("ldp", api.Lin{Terms: []api.Term{}})}})
	a, why := image.With(p, nil)
	b, also := image.With(p, []int{})
	if why != api.OK || also != api.OK || !bytes.Equal(a.Bytes(), b.Bytes()) {
		t.Fatalf("%v, %v", why, also)
	}
	holds(t, a, p, nil)
	holds(t, b, p, nil)
}

// What was told in one call, or refused, does not change the next one, nor an image that there is.
func TestCallsDoNotHangOnEachOther(t *testing.T) {
	all := samples()
	var images []*image.Image
	var want []string
	for _, c := range all {
		m := with(t, c.p, c.forms...)
		images, want = append(images, m), append(want, answers(m))
	}
	for n := range 3 {
		for i := range all {
			image.Build(nil)
			image.With(nil, all[i].forms)
			image.With(all[i].p, append(slices.Clone(all[i].forms), 1))
			image.With(linked("jmp 1000"), []int{1})
			image.Build(linked("section data\nspace 1048576\nbyte 1"))
			at := (i*(n+2) + n) % len(all)
			if got := answers(with(t, all[at].p, all[at].forms...)); got != want[at] {
				t.Errorf("%s, not %s", short(got), short(want[at]))
			}
			if got := answers(images[at]); got != want[at] {
				t.Errorf("%s has become %s", short(want[at]), short(got))
			}
		}
	}
}

// R9: several goroutines may ask one image, and build others of its program.
func TestManyAskOneImage(t *testing.T) {
	c := samples()[5]
	m := with(t, c.p, c.forms...)
	want := answers(m)
	var wait sync.WaitGroup
	got := make([]string, 8)
	for n := range got {
		wait.Add(1)
		go func() {
			defer wait.Done()
			for range 20 {
				scribbleAll(m)
				got[n] = answers(m)
				other, _ := image.With(m.Program(), m.Forms())
				scribbleAll(other)
				if n%2 == 0 {
					got[n] = answers(other)
				}
			}
		}()
	}
	wait.Wait()
	for _, s := range got {
		if s != want {
			t.Errorf("%s, not %s", short(s), short(want))
		}
	}
}
