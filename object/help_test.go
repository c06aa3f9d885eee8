package object_test

import (
	"errors"
	"fmt"
	"math"
	"slices"
	"strings"
	"testing"

	"spandrel/api"
	"spandrel/object"
	"spandrel/unit"
)

// The numbers of the operations that the tests name; those from li on have an expression.
const (
	opNop   = 1
	opPrint = 4
	opZturn = 11
	opAdd   = 14
	opZmul  = 32
	opZre   = 33
	opZset  = 35
	opLis   = 36
	opTrap  = 37
	opLi    = 38
	opLdp   = 39
	opJmp   = 40
	opCall  = 41
	opJz    = 42
	opJnz   = 43
)

// begin is what each object begins with.
const begin = "SPAN\x01"

func term(name string, coef uint32) api.Term {
	return api.Term{Name: name, Coef: coef}
}

func lin(n uint32, terms ...api.Term) api.Lin {
	return api.Lin{Terms: terms, Const: n}
}

func label(name string) api.Item {
	return api.Item{Kind: api.Label, Name: name}
}

func code(op, a, b int, n int32) api.Item {
	return api.Item{Kind: api.Code, Inst: api.Inst{Op: op, A: a, B: b, N: n}}
}

func codeWith(op, a int, e api.Lin) api.Item {
	return api.Item{Kind: api.Code, Inst: api.Inst{Op: op, A: a}, E: e}
}

func counted(kind, n int) api.Item {
	return api.Item{Kind: kind, N: n}
}

func worded(e api.Lin) api.Item {
	return api.Item{Kind: api.Word, E: e}
}

func equal(name string, e api.Lin) api.Equ {
	return api.Equ{Name: name, E: e}
}

// items is a list of them, shorter to write; so is equs.
func items(l ...api.Item) []api.Item {
	return l
}

func equs(l ...api.Equ) []api.Equ {
	return l
}

// someUnit answers a right unit with each kind of item, each shape of code, labels, equs and globals.
func someUnit() api.Unit {
	return api.Unit{
		Text: items(label("a"), code(opNop, 0, 0, 0), code(opPrint, 7, 0, 0), code(opZturn, 3, 0, 0), code(opAdd, 1, 7, 0),
			code(opZmul, 3, 2, 0), code(opZre, 7, 3, 0), code(opZset, 3, 7, 6), code(opLis, 5, 0, -128), code(opTrap, 0, 0, 255),
			label("c"), codeWith(opLi, 4, lin(2, term("far", 1))), codeWith(opLdp, 5, lin(math.MaxUint32, term("b", 2), term("x", 3))),
			codeWith(opJmp, 0, lin(0, term("a", 1))), codeWith(opCall, 0, lin(7)), codeWith(opJz, 2, lin(0)), codeWith(opJnz, 7, lin(1, term("c", math.MaxUint32))),
			counted(api.Align, 256), counted(api.Pool, 0)),
		Data: items(label("b"), worded(lin(9, term("a", 1), term("b", math.MaxUint32))), worded(lin(0)), counted(api.Byte, -128), counted(api.Byte, 255),
			counted(api.Space, api.MaxImage), counted(api.Align, 1), label("d")),
		Equs:    equs(equal("far", lin(3, term("far", 1))), equal("e", lin(0, term("a", 1), term("q", 5)))),
		Globals: []string{"a", "d", "e", "far"},
	}
}

// someUnits answers right units, small ones first.
func someUnits() []api.Unit {
	return []api.Unit{
		{},
		{Text: items(label("a"))},
		{Data: items(label("a"))},
		{Equs: equs(equal("a", lin(0)))},
		{Text: items(code(opNop, 0, 0, 0), counted(api.Pool, 0))},
		{Text: items(codeWith(opJmp, 0, lin(5, term("a", 1), term("b", 2))))},
		{Text: items(label("b"), label("a")), Globals: []string{"a", "b"}},
		{Data: items(counted(api.Byte, -1), counted(api.Space, 1<<20))},
		{Data: items(worded(lin(1, term("a", 1))), worded(lin(1, term("a", 1))), label("z"), counted(api.Align, 64)), Globals: []string{"z"}},
		{Text: items(label("A"), codeWith(opLdp, 1, lin(1, term("_", 9)))), Data: items(label("a")), Equs: equs(equal("_", lin(1, term("_", 1))), equal("B", lin(2))), Globals: []string{"A", "B", "_", "a"}},
		someUnit(),
	}
}

func sameLin(x, y api.Lin) bool {
	return slices.Equal(x.Terms, y.Terms) && x.Const == y.Const
}

func sameItem(x, y api.Item) bool {
	return x.Kind == y.Kind && x.Name == y.Name && x.Inst == y.Inst && x.N == y.N && sameLin(x.E, y.E)
}

func sameEqu(x, y api.Equ) bool {
	return x.Name == y.Name && sameLin(x.E, y.E)
}

func same(u, v api.Unit) bool {
	return slices.EqualFunc(u.Text, v.Text, sameItem) && slices.EqualFunc(u.Data, v.Data, sameItem) &&
		slices.EqualFunc(u.Equs, v.Equs, sameEqu) && slices.Equal(u.Globals, v.Globals)
}

// shorter cuts what would fill pages.
func shorter[T string | []byte](b T) T {
	return b[:min(len(b), 200)]
}

// told answers u in words, likewise.
func told(u api.Unit) string {
	return shorter(fmt.Sprintf("%+v", u))
}

// The bytes of the parts of an object, written anew from the chapter.

func one(n int) string {
	return string([]byte{byte(n)})
}

func two(n int) string {
	return string([]byte{byte(n), byte(n >> 8)})
}

func four(n uint32) string {
	return string([]byte{byte(n), byte(n >> 8), byte(n >> 16), byte(n >> 24)})
}

func text(s string) string {
	return two(len(s)) + s
}

// counts answers how many there are, and them.
func counts(l ...string) string {
	return two(len(l)) + strings.Join(l, "")
}

func linBytes(x api.Lin) string {
	var b strings.Builder
	b.WriteString(two(len(x.Terms)))
	for _, t := range x.Terms {
		b.WriteString(text(t.Name) + four(t.Coef))
	}
	return b.String() + four(x.Const)
}

func instBytes(op, a, b int, n uint32) string {
	return "\x02" + one(op) + one(a) + one(b) + four(n)
}

func itemBytes(x api.Item) string {
	switch x.Kind {
	case api.Label:
		return "\x01" + text(x.Name)
	case api.Code:
		s := instBytes(x.Inst.Op, x.Inst.A, x.Inst.B, uint32(x.Inst.N))
		if x.Inst.Op >= opLi && x.Inst.Op <= opJnz {
			s += linBytes(x.E)
		}
		return s
	case api.Align:
		return "\x03" + two(x.N)
	case api.Pool:
		return "\x04"
	case api.Byte:
		return "\x05" + two(x.N)
	case api.Word:
		return "\x06" + linBytes(x.E)
	case api.Space:
		return "\x07" + four(uint32(x.N))
	}
	return one(x.Kind)
}

func equBytes(q api.Equ) string {
	return text(q.Name) + linBytes(q.E)
}

func each[T any](l []T, bytes func(T) string) []string {
	var out []string
	for _, x := range l {
		out = append(out, bytes(x))
	}
	return out
}

// bytesOf answers the object that the chapter makes of u, whether u is right or not.
func bytesOf(u api.Unit) string {
	return begin + counts(each(u.Text, itemBytes)...) + counts(each(u.Data, itemBytes)...) + counts(each(u.Equs, equBytes)...) + counts(each(u.Globals, text)...)
}

// written answers the object of a unit that must have one.
func written(t *testing.T, u api.Unit) []byte {
	t.Helper()
	b, why := object.Write(u)
	if why != api.OK {
		t.Fatalf("%s: %v", told(u), why)
	}
	return b
}

// taken answers the unit of an object that must be one.
func taken(t *testing.T, b []byte) api.Unit {
	t.Helper()
	u, err := object.Read(b)
	if err != nil {
		t.Fatalf("%q: %v", shorter(b), err)
	}
	return u
}

// writes holds the object of u against want, byte for byte, and P10.3.
func writes(t *testing.T, u api.Unit, want string) {
	t.Helper()
	b, why := object.Write(u)
	if why != api.OK || string(b) != want {
		t.Errorf("%s: %q, %v; not %q", told(u), shorter(b), why, shorter(want))
		return
	}
	got, err := object.Read(b)
	if err != nil || !same(got, u) {
		t.Errorf("%q: %s, %v; not %s", shorter(b), told(got), err, told(u))
	}
	if again := written(t, got); string(again) != want {
		t.Errorf("%q is read, and written %q", shorter(want), shorter(again))
	}
}

func refusesUnit(t *testing.T, u api.Unit, want api.Errno) {
	t.Helper()
	if b, why := object.Write(u); why != want || len(b) != 0 {
		t.Errorf("%s: %q, %v; not refused with %v", told(u), shorter(b), why, want)
	}
}

func refuses(t *testing.T, b string, at int, why api.Errno) {
	t.Helper()
	u, err := object.Read([]byte(b))
	if err == nil {
		t.Errorf("%q is read as %s, not refused with %v at %d", shorter(b), told(u), why, at)
		return
	}
	if !same(u, api.Unit{}) {
		t.Errorf("%q is refused, and there is a unit %s", shorter(b), told(u))
	}
	var r *object.Refusal
	if !errors.As(err, &r) {
		t.Errorf("%q: errors.As finds no Refusal in %v", shorter(b), err)
		return
	}
	if want := (object.Refusal{At: at, Why: why}); *r != want {
		t.Errorf("%q: %+v, not %+v", shorter(b), *r, want)
	}
}

// The chapter's reading, said anew: what is read so far, each thing with it, is a unit that unit.Right takes.

// verdict is where a reading stops, and why.
type verdict struct {
	at  int
	why api.Errno
}

type judge struct {
	b    string
	at   int
	unit api.Unit
}

func (j *judge) take(n int) string {
	if len(j.b)-j.at < n {
		panic(verdict{len(j.b), api.ErrEnd})
	}
	j.at += n
	return j.b[j.at-n : j.at]
}

func (j *judge) number(width int) int {
	n := 0
	for i, c := range []byte(j.take(width)) {
		n += int(c) << (8 * i)
	}
	return n
}

func (j *judge) text() string {
	return j.take(j.number(2))
}

func (j *judge) lin() api.Lin {
	var x api.Lin
	for range j.number(2) {
		name := j.text()
		x.Terms = append(x.Terms, term(name, uint32(j.number(4))))
	}
	x.Const = uint32(j.number(4))
	return x
}

func (j *judge) item() api.Item {
	switch kind := j.number(1); kind {
	case api.Label:
		return label(j.text())
	case api.Code:
		op, a, b := j.number(1), j.number(1), j.number(1)
		x := code(op, a, b, int32(uint32(j.number(4))))
		if op >= opLi && op <= opJnz {
			x.E = j.lin()
		}
		return x
	case api.Byte:
		n := j.number(2)
		if n >= 1<<15 {
			n -= 1 << 16
		}
		return counted(kind, n)
	case api.Align:
		return counted(kind, j.number(2))
	case api.Pool:
		return counted(kind, 0)
	case api.Word:
		return worded(j.lin())
	case api.Space:
		return counted(kind, j.number(4))
	}
	panic(verdict{j.at - 1, api.ErrUnit})
}

// list reads a count, which may be most at most, and so many things, each of which read puts into the unit.
func (j *judge) list(most int, read func()) {
	from := j.at
	n := j.number(2)
	if n > most {
		panic(verdict{from, api.ErrMany})
	}
	for range n {
		from := j.at
		read()
		if unit.Right(j.unit) != api.OK {
			panic(verdict{from, api.ErrUnit})
		}
	}
}

func (j *judge) whole() {
	if len(j.b) > api.MaxObject {
		panic(verdict{0, api.ErrLong})
	}
	for n := range len(begin) {
		if n == len(j.b) || j.b[n] != begin[n] {
			panic(verdict{n, api.ErrHead})
		}
	}
	j.at = len(begin)
	u := &j.unit
	j.list(api.MaxItems, func() { u.Text = append(u.Text, j.item()) })
	j.list(api.MaxItems-len(u.Text), func() { u.Data = append(u.Data, j.item()) })
	j.list(api.MaxItems, func() {
		name := j.text()
		u.Equs = append(u.Equs, equal(name, j.lin()))
	})
	j.list(math.MaxUint16, func() { u.Globals = append(u.Globals, j.text()) })
	if j.at < len(j.b) {
		panic(verdict{j.at, api.ErrTail})
	}
}

// judged answers what the chapter says of b.
func judged(b string) (u api.Unit, v verdict) {
	j := judge{b: b}
	defer func() {
		if x := recover(); x != nil {
			u, v = api.Unit{}, x.(verdict)
		}
	}()
	j.whole()
	return j.unit, verdict{}
}

// agrees holds what Read answers of b against the chapter said anew, and P10.3, and tells whether b is an object.
func agrees(t *testing.T, b string) bool {
	t.Helper()
	want, v := judged(b)
	if v.why != api.OK {
		got, err := object.Read([]byte(b))
		if r, ok := err.(*object.Refusal); !ok || r.At != v.at || r.Why != v.why || !same(got, api.Unit{}) {
			t.Fatalf("%q: %s, %v; not %v at %d", shorter(b), told(got), err, v.why, v.at)
		}
		return false
	}
	got, err := object.Read([]byte(b))
	if err != nil || !same(got, want) {
		t.Fatalf("%q: %s, %v; not %s", shorter(b), told(got), err, told(want))
	}
	if again, why := object.Write(got); why != api.OK || string(again) != b {
		t.Fatalf("%q is read, and written %q, %v", shorter(b), shorter(again), why)
	}
	return true
}
