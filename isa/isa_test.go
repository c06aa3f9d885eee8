package isa_test

import (
	"math"
	"math/rand"
	"slices"
	"strconv"
	"strings"
	"testing"

	"spandrel/api"
	"spandrel/isa"
	"spandrel/octet"
)

// table is the document's table of P5.1, row by row.
const table = `None nop 00, halt 01, ret 02
Reg print 03, in 04, push 05, pop 06, jr 07, neg 08, not 09
ZReg zturn 0a, zconj 0b
Two mov 10, add 11, sub 12, mul 13, div 14, and 15, or 16, xor 17, shl 18, shr 19, lt 1a, eq 1b, ldb 1c, ldw 1d, ldm 1e, stm 1f
ZTwo zmov 20, zadd 21, zsub 22, zmul 23
Part zre 24, zim 25
Build zset 26
Small lis 30
Own trap 31
Wide li 32
Load ldp 33
Jump jmp 40, call 43
Branch jz 46, jnz 49`

// shapeNames are the shapes in the order in which the document numbers them, from 1 on.
const shapeNames = "None Reg ZReg Two ZTwo Part Build Small Own Wide Load Jump Branch"

const operations = 43

// read answers the operations of the table.
func read(t *testing.T) []isa.Op {
	t.Helper()
	var l []isa.Op
	names := strings.Fields(shapeNames)
	for row := range strings.Lines(table) {
		shape, rest, _ := strings.Cut(strings.TrimSpace(row), " ")
		for _, part := range strings.Split(rest, ", ") {
			name, hex, _ := strings.Cut(part, " ")
			b, err := strconv.ParseUint(hex, 16, 8)
			if err != nil {
				t.Fatal(err)
			}
			l = append(l, isa.Op{Name: name, Byte: byte(b), Shape: slices.Index(names, shape) + 1})
		}
	}
	if len(l) != operations {
		t.Fatalf("the table has %d operations", len(l))
	}
	return l
}

// op answers the number of a name by the table, not by Find.
func op(t *testing.T, name string) int {
	t.Helper()
	n := slices.IndexFunc(read(t), func(o isa.Op) bool { return o.Name == name }) + 1
	if n == 0 {
		t.Fatalf("the table has no %q", name)
	}
	return n
}

func checks(t *testing.T, i api.Inst, want api.Errno) {
	t.Helper()
	if why := isa.Check(i); why != want {
		t.Errorf("Check(%+v): %v, not %v", i, why, want)
	}
}

// has asks for an instruction that is taken and has so many bytes.
func has(t *testing.T, i api.Inst, want int) {
	t.Helper()
	checks(t, i, api.OK)
	if n := isa.Len(i); n != want {
		t.Errorf("Len(%+v): %d, not %d", i, n, want)
	}
}

// refuses asks for an instruction that is refused, and so has no bytes.
func refuses(t *testing.T, i api.Inst, want api.Errno) {
	t.Helper()
	checks(t, i, want)
	if n := isa.Len(i); n != 0 {
		t.Errorf("Len(%+v), which is refused: %d", i, n)
	}
}

// The table 'Runs' and the 'Examples'.

func TestRuns(t *testing.T) {
	if n, ok := isa.Find("jmp"); n != 40 || !ok {
		t.Errorf("Find(jmp): %d, %v", n, ok)
	}
	if n, ok := isa.Find("nope"); n != 0 || ok {
		t.Errorf("Find(nope): %d, %v", n, ok)
	}
	refuses(t, api.Inst{Op: op(t, "add"), A: 1, B: 9}, api.ErrReg)
	refuses(t, api.Inst{Op: op(t, "nop"), A: 1}, api.ErrReg)
	refuses(t, api.Inst{Op: op(t, "jmp"), N: 200, Form: 1}, api.ErrForm)
	has(t, api.Inst{Op: op(t, "li")}, 6)
	has(t, api.Inst{Op: op(t, "jz"), Form: 4}, 6)
}

func TestExamples(t *testing.T) {
	if o, ok := isa.At(0); o != (isa.Op{}) || ok {
		t.Errorf("At(0): %+v, %v", o, ok)
	}
	refuses(t, api.Inst{Op: op(t, "lis"), A: 0, N: 128}, api.ErrForm)
	if !isa.Spans(40) {
		t.Error("Spans(40): false")
	}
	if n := len(isa.Ops()); n != 43 {
		t.Errorf("Ops has %d", n)
	}
}

// P5.1

func TestShapesAreNumberedFromOneOn(t *testing.T) {
	got := []int{isa.None, isa.Reg, isa.ZReg, isa.Two, isa.ZTwo, isa.Part, isa.Build, isa.Small, isa.Own, isa.Wide, isa.Load, isa.Jump, isa.Branch}
	for i, n := range got {
		if n != i+1 {
			t.Errorf("%s is %d, not %d", strings.Fields(shapeNames)[i], n, i+1)
		}
	}
}

func TestOps(t *testing.T) {
	got, want := isa.Ops(), read(t)
	if len(got) != len(want) {
		t.Fatalf("%d operations, not %d", len(got), len(want))
	}
	for i := range want {
		if got[i] != want[i] {
			t.Errorf("operation %d: %+v, not %+v", i+1, got[i], want[i])
		}
	}
}

func TestNoTwoOperationsAreAlike(t *testing.T) {
	names, firsts := map[string]int{}, map[byte]int{}
	for _, o := range isa.Ops() {
		names[o.Name]++
		// The forms of a displacement take three bytes, one behind the other.
		for k := byte(0); k < 3; k++ {
			if k == 0 || o.Shape == isa.Jump || o.Shape == isa.Branch {
				firsts[o.Byte+k]++
			}
		}
	}
	for name, n := range names {
		if n != 1 {
			t.Errorf("%d operations are named %q", n, name)
		}
	}
	for b, n := range firsts {
		if n != 1 {
			t.Errorf("%d operations begin with %02x", n, b)
		}
	}
}

func TestOpsAreNewMemoryEachTime(t *testing.T) {
	first, second := isa.Ops(), isa.Ops()
	if &first[0] == &second[0] {
		t.Error("two answers share memory")
	}
	first = first[:cap(first)]
	for i := range first {
		first[i] = isa.Op{Name: "x", Byte: 0xff, Shape: isa.None}
	}
	_ = append(first[:1], isa.Op{Name: "y"})
	want := read(t)
	if !slices.Equal(second, want) || !slices.Equal(isa.Ops(), want) {
		t.Error("what one answer held was changed through another")
	}
	for i, o := range want {
		if n, ok := isa.Find(o.Name); n != i+1 || !ok {
			t.Errorf("Find(%q), later: %d, %v", o.Name, n, ok)
		}
		if got, ok := isa.At(i + 1); got != o || !ok {
			t.Errorf("At(%d), later: %+v, %v", i+1, got, ok)
		}
	}
	if _, ok := isa.Find("x"); ok {
		t.Error("what was written over an answer is found")
	}
	has(t, api.Inst{Op: 40, N: 200, Form: 2}, 3)
}

// P5.2

func TestFindAndAt(t *testing.T) {
	for i, o := range read(t) {
		if n, ok := isa.Find(o.Name); n != i+1 || !ok {
			t.Errorf("Find(%q): %d, %v; not %d", o.Name, n, ok, i+1)
		}
		if got, ok := isa.At(i + 1); got != o || !ok {
			t.Errorf("At(%d): %+v, %v; not %+v", i+1, got, ok, o)
		}
	}
}

func TestFindByAnEqualText(t *testing.T) {
	for i, o := range read(t) {
		if n, ok := isa.Find(string([]byte(o.Name))); n != i+1 || !ok {
			t.Errorf("Find of the bytes of %q: %d, %v", o.Name, n, ok)
		}
	}
}

func TestFindNone(t *testing.T) {
	none := []string{"", " ", "nope", "x", "r1", "z0", "align", "pool", "byte", "word", "space", "\x00", "\xff", "no\u0440", strings.Repeat("nop", 1<<16)}
	for _, o := range read(t) {
		n := o.Name
		none = append(none, strings.ToUpper(n), strings.ToUpper(n[:1])+n[1:], n[:len(n)-1]+strings.ToUpper(n[len(n)-1:]),
			n+" ", " "+n, n+":", n+"\x00", n+n, "."+n, n+"_")
	}
	taken := map[string]int{}
	for _, o := range read(t) {
		taken[o.Name]++
	}
	for _, o := range read(t) {
		for _, s := range []string{o.Name[:len(o.Name)-1], o.Name[1:], o.Name + "s"} {
			if taken[s] == 0 {
				none = append(none, s)
			}
		}
	}
	for _, s := range none {
		if n, ok := isa.Find(s); n != 0 || ok {
			t.Errorf("Find(%.20q): %d, %v", s, n, ok)
		}
	}
}

// noNumbers are numbers of no operation, the nearest ones and some that narrower kinds would take for one.
var noNumbers = []int{0, -1, -40, operations + 1, operations + 2, 64, 128, 255, 256, 256 + 40, 1<<16 + 40, 1<<31 - 1, -1 << 31, math.MaxInt, math.MinInt}

func TestAtNone(t *testing.T) {
	for _, n := range noNumbers {
		if o, ok := isa.At(n); o != (isa.Op{}) || ok {
			t.Errorf("At(%d): %+v, %v", n, o, ok)
		}
	}
}

func TestSpans(t *testing.T) {
	for i, o := range read(t) {
		want := slices.Contains([]string{"jmp", "call", "jz", "jnz"}, o.Name)
		if got := isa.Spans(i + 1); got != want {
			t.Errorf("Spans of %s: %v", o.Name, got)
		}
	}
	for _, n := range noNumbers {
		if isa.Spans(n) {
			t.Errorf("Spans(%d)", n)
		}
	}
}

// P5.3, P5.4

// limit is what the document says of a shape; a register of -1 is one that the shape has not.
type limit struct {
	shape       int
	a, b        int
	least, most int32
	bytes       int
}

func limits() []limit {
	return []limit{
		{isa.None, -1, -1, 0, 0, 1},
		{isa.Reg, 7, -1, 0, 0, 2},
		{isa.ZReg, 3, -1, 0, 0, 2},
		{isa.Two, 7, 7, 0, 0, 2},
		{isa.ZTwo, 3, 3, 0, 0, 2},
		{isa.Part, 7, 3, 0, 0, 2},
		{isa.Build, 3, 7, 0, 7, 3},
		{isa.Small, 7, -1, -128, 127, 3},
		{isa.Own, -1, -1, 0, 255, 2},
		{isa.Wide, 7, -1, -1 << 31, 1<<31 - 1, 6},
		{isa.Load, 7, -1, 0, 4095, 4},
		{isa.Jump, -1, -1, 0, 0, 1},
		{isa.Branch, 7, -1, 0, 0, 2},
	}
}

// form is a form with the ends of what it holds; form 0 stands for the shapes that have none.
type form struct {
	bytes       int
	least, most int32
}

func forms() []form {
	return []form{{1, -128, 127}, {2, -32768, 32767}, {4, -1 << 31, 1<<31 - 1}}
}

// formsOf answers the forms of a shape, each with the ends of N.
func formsOf(s limit) []form {
	if s.shape == isa.Jump || s.shape == isa.Branch {
		return forms()
	}
	return []form{{0, s.least, s.most}}
}

// each calls f with every operation and the limits of its shape.
func each(t *testing.T, f func(op int, s limit)) {
	t.Helper()
	for i, o := range read(t) {
		s := limits()[o.Shape-1]
		if s.shape != o.Shape {
			t.Fatalf("the limits of shape %d stand at %d", s.shape, o.Shape)
		}
		f(i+1, s)
	}
}

// farRegisters are none, some of which narrower kinds would take for one.
var farRegisters = []int{-1, -2, -8, 8, 9, 15, 16, 255, 256, 257, 1 << 16, 1<<31 - 1, -1 << 31, math.MaxInt, math.MinInt, math.MinInt + 1}

func TestCheckTakesTheEnds(t *testing.T) {
	each(t, func(op int, s limit) {
		for _, f := range formsOf(s) {
			for _, n := range []int32{f.least, f.least/2 + f.most/2, f.most} {
				for a := 0; a <= max(s.a, 0); a++ {
					for b := 0; b <= max(s.b, 0); b++ {
						has(t, api.Inst{Op: op, A: a, B: b, N: n, Form: f.bytes}, s.bytes+f.bytes)
					}
				}
			}
		}
	})
}

func TestCheckRefusesRegisters(t *testing.T) {
	each(t, func(op int, s limit) {
		f := formsOf(s)[0]
		good := api.Inst{Op: op, N: f.most, Form: f.bytes}
		has(t, good, s.bytes+f.bytes)
		for _, r := range append([]int{max(s.a, 0) + 1}, farRegisters...) {
			i := good
			i.A = r
			refuses(t, i, api.ErrReg)
		}
		for _, r := range append([]int{max(s.b, 0) + 1}, farRegisters...) {
			i := good
			i.B = r
			refuses(t, i, api.ErrReg)
		}
	})
}

func TestCheckRefusesNumbers(t *testing.T) {
	each(t, func(op int, s limit) {
		want := api.ErrForm
		if s.shape == isa.Build {
			want = api.ErrReg
		}
		for _, f := range formsOf(s) {
			i := api.Inst{Op: op, Form: f.bytes}
			if f.least > math.MinInt32 {
				for _, n := range []int32{f.least - 1, -1 << 31} {
					i.N = n
					refuses(t, i, want)
				}
			}
			if f.most < math.MaxInt32 {
				for _, n := range []int32{f.most + 1, 1 << 24, 1<<31 - 1} {
					i.N = n
					refuses(t, i, want)
				}
			}
		}
	})
}

func TestCheckRefusesForms(t *testing.T) {
	no := []int{-1, -4, 3, 5, 8, 255, 256, 257, 258, 260, 1<<31 - 1, -1 << 31, math.MaxInt, math.MinInt}
	each(t, func(op int, s limit) {
		wrong := append([]int{0}, no...)
		if !isa.Spans(op) {
			wrong = append([]int{1, 2, 4}, no...)
		}
		for _, f := range wrong {
			refuses(t, api.Inst{Op: op, Form: f}, api.ErrForm)
		}
	})
}

func TestCheckRefusesOperations(t *testing.T) {
	for _, n := range noNumbers {
		refuses(t, api.Inst{Op: n}, api.ErrOp)
		refuses(t, api.Inst{Op: n, Form: 1}, api.ErrOp)
	}
	refuses(t, api.Inst{}, api.ErrOp)
}

func TestCheckOfTwoFaults(t *testing.T) {
	for _, n := range noNumbers {
		refuses(t, api.Inst{Op: n, A: 9}, api.ErrOp)
		refuses(t, api.Inst{Op: n, B: -1}, api.ErrOp)
		refuses(t, api.Inst{Op: n, Form: 3}, api.ErrOp)
		refuses(t, api.Inst{Op: n, A: 9, B: 9, N: -1 << 31, Form: 3}, api.ErrOp)
	}
	each(t, func(op int, s limit) {
		for _, bad := range []api.Inst{{A: 9}, {B: 9}, {A: -1}, {B: -1}, {A: max(s.a, 0) + 1}, {B: max(s.b, 0) + 1}} {
			bad.Op = op
			bad.Form = 3
			refuses(t, bad, api.ErrReg)
			bad.N = -1 << 31
			refuses(t, bad, api.ErrReg)
			bad.Form = 0
			refuses(t, bad, api.ErrReg)
			bad.Form = 1
			refuses(t, bad, api.ErrReg)
		}
	})
	build := op(t, "zset")
	refuses(t, api.Inst{Op: build, N: 8, Form: 1}, api.ErrReg)
	refuses(t, api.Inst{Op: build, N: -1, Form: 3}, api.ErrReg)
	refuses(t, api.Inst{Op: build, A: 4, N: 8}, api.ErrReg)
	refuses(t, api.Inst{Op: build, N: 7, Form: 1}, api.ErrForm)
	refuses(t, api.Inst{Op: op(t, "lis"), N: 128, Form: 1}, api.ErrForm)
}

// model is the document's P5.3, said once more, fault by fault.
func model(all []isa.Op, i api.Inst) api.Errno {
	if i.Op < 1 || i.Op > len(all) {
		return api.ErrOp
	}
	s := limits()[all[i.Op-1].Shape-1]
	fits := func(r, greatest int) bool {
		return r == 0 || r > 0 && r <= greatest
	}
	if !fits(i.A, s.a) || !fits(i.B, s.b) || s.shape == isa.Build && (i.N < 0 || i.N > 7) {
		return api.ErrReg
	}
	for _, f := range formsOf(s) {
		if f.bytes == i.Form && f.least <= i.N && i.N <= f.most {
			return api.OK
		}
	}
	return api.ErrForm
}

func TestCheckOfAllSmallOnes(t *testing.T) {
	all := read(t)
	numbers := []int32{-1 << 31, -32769, -32768, -129, -128, -1, 0, 1, 7, 8, 127, 128, 255, 256, 4095, 4096, 32767, 32768, 1<<31 - 1}
	bytes := []int{1, 2, 2, 2, 2, 2, 3, 3, 2, 6, 4, 1, 2}
	ask := func(i api.Inst) {
		want, size := model(all, i), 0
		if want == api.OK {
			size = bytes[all[i.Op-1].Shape-1] + i.Form
		}
		if why, n := isa.Check(i), isa.Len(i); why != want || n != size {
			t.Fatalf("%+v: %v, %d; not %v, %d", i, why, n, want, size)
		}
	}
	for op := -1; op <= operations+1; op++ {
		for a := -1; a <= 8; a++ {
			for b := -1; b <= 8; b++ {
				for form := -1; form <= 5; form++ {
					for _, n := range numbers {
						ask(api.Inst{Op: op, A: a, B: b, N: n, Form: form})
					}
				}
			}
		}
	}
}

func TestLenOfEachShape(t *testing.T) {
	for name, want := range map[string]int{"nop": 1, "print": 2, "zturn": 2, "add": 2, "zadd": 2, "zre": 2, "trap": 2, "zset": 3, "lis": 3, "li": 6, "ldp": 4} {
		has(t, api.Inst{Op: op(t, name)}, want)
	}
	for _, f := range []int{1, 2, 4} {
		has(t, api.Inst{Op: op(t, "jmp"), Form: f}, 1+f)
		has(t, api.Inst{Op: op(t, "call"), Form: f}, 1+f)
		has(t, api.Inst{Op: op(t, "jz"), Form: f}, 2+f)
		has(t, api.Inst{Op: op(t, "jnz"), Form: f}, 2+f)
	}
}

// P5.5

func TestReaches(t *testing.T) {
	for _, f := range forms() {
		for _, n := range []int32{f.least, f.least + 1, -1, 0, 1, f.most - 1, f.most} {
			if !isa.Reaches(n, f.bytes) {
				t.Errorf("Reaches(%d, %d): false", n, f.bytes)
			}
		}
		if f.bytes == 4 {
			continue
		}
		for _, n := range []int32{f.least - 1, f.least - 2, f.most + 1, f.most + 2, 2*f.most + 1, 2*f.most + 2, 2 * f.least, 4 * f.least, -1 << 31, 1<<31 - 1} {
			if isa.Reaches(n, f.bytes) {
				t.Errorf("Reaches(%d, %d): true", n, f.bytes)
			}
		}
	}
}

func TestReachesByNoForm(t *testing.T) {
	for _, f := range []int{0, -1, -2, -4, 3, 5, 6, 7, 8, 255, 256, 257, 258, 260, 1<<32 + 1, 1<<32 + 4, math.MaxInt, math.MinInt} {
		for _, n := range []int32{0, 1, -1, 127, -128, 1<<31 - 1, -1 << 31} {
			if isa.Reaches(n, f) {
				t.Errorf("Reaches(%d, %d): true", n, f)
			}
		}
	}
}

func TestReachesAsOctetSays(t *testing.T) {
	ask := func(n int32, f int) {
		if got, want := isa.Reaches(n, f), octet.Fits(n, f); got != want {
			t.Fatalf("Reaches(%d, %d): %v, octet says %v", n, f, got, want)
		}
	}
	for n := int32(-1 << 17); n < 1<<17; n++ {
		ask(n, 1)
		ask(n, 2)
		ask(n, 4)
	}
	r := rand.New(rand.NewSource(5))
	for range 100000 {
		n := int32(r.Uint32()) >> r.Intn(32)
		ask(n, 1<<r.Intn(3))
	}
}
