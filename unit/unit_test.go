package unit_test

import (
	"errors"
	"math"
	"slices"
	"strconv"
	"strings"
	"testing"
	"unsafe"

	"spandrel/api"
	"spandrel/item"
	"spandrel/unit"
)

// The numbers of the operations that the tests name.
const (
	opNop  = 1
	opHalt = 2
	opRet  = 3
	opJr   = 8
	opAdd  = 14
	opZset = 35
	opLis  = 36
	opTrap = 37
	opLi   = 38
	opLdp  = 39
	opJmp  = 40
	opCall = 41
	opJz   = 42
	opJnz  = 43
)

// All numbers that a refusal may have, and some that none has.
func numbers() []api.Errno {
	var l []api.Errno
	for n := api.Errno(-1); n < 40; n++ {
		l = append(l, n)
	}
	return l
}

func term(name string, coef uint32) api.Term {
	return api.Term{Name: name, Coef: coef}
}

func lin(n uint32, terms ...api.Term) api.Lin {
	return api.Lin{Terms: terms, Const: n}
}

func label(name string) api.Item {
	return api.Item{Kind: api.Label, Name: name}
}

func code(op, a, b int, n int32) api.Item {
	return api.Item{Kind: api.Code, Inst: api.Inst{Op: op, A: a, B: b, N: n}}
}

func codeWith(op, a int, e api.Lin) api.Item {
	return api.Item{Kind: api.Code, Inst: api.Inst{Op: op, A: a}, E: e}
}

func counted(kind, n int) api.Item {
	return api.Item{Kind: kind, N: n}
}

func worded(e api.Lin) api.Item {
	return api.Item{Kind: api.Word, E: e}
}

func equal(name string, e api.Lin) api.Equ {
	return api.Equ{Name: name, E: e}
}

// items is a list of them, shorter to write.
func items(l ...api.Item) []api.Item {
	return l
}

func lines(l ...string) string {
	return strings.Join(l, "\n")
}

func sameLin(x, y api.Lin) bool {
	return slices.Equal(x.Terms, y.Terms) && x.Const == y.Const
}

func sameItem(x, y api.Item) bool {
	return x.Kind == y.Kind && x.Name == y.Name && x.Inst == y.Inst && x.N == y.N && sameLin(x.E, y.E)
}

func sameEqu(x, y api.Equ) bool {
	return x.Name == y.Name && sameLin(x.E, y.E)
}

func same(u, v api.Unit) bool {
	return slices.EqualFunc(u.Text, v.Text, sameItem) && slices.EqualFunc(u.Data, v.Data, sameItem) &&
		slices.EqualFunc(u.Equs, v.Equs, sameEqu) && slices.Equal(u.Globals, v.Globals)
}

// short cuts what would fill pages.
func short(src string) string {
	if len(src) > 200 {
		return src[:100] + " .. " + src[len(src)-100:]
	}
	return src
}

func assembles(t *testing.T, src string, want api.Unit) {
	t.Helper()
	got, err := unit.Assemble(src)
	if err != nil || !same(got, want) {
		t.Errorf("%q: %+v, %v; not %+v", short(src), got, err, want)
	}
	if why := unit.Right(got); why != api.OK {
		t.Errorf("%q is assembled, and Right says %v", short(src), why)
	}
}

// taken answers the unit of a source that must be one.
func taken(t *testing.T, src string) api.Unit {
	t.Helper()
	u, err := unit.Assemble(src)
	if err != nil {
		t.Fatalf("%q: %v", short(src), err)
	}
	return u
}

func refuses(t *testing.T, src string, n int, why api.Errno) {
	t.Helper()
	u, err := unit.Assemble(src)
	if err == nil {
		t.Errorf("%q is assembled to %+v, not refused with %v at %d", short(src), u, why, n)
		return
	}
	if !same(u, api.Unit{}) {
		t.Errorf("%q is refused, and there is a unit %+v", short(src), u)
	}
	var r *unit.Refusal
	if !errors.As(err, &r) {
		t.Errorf("%q: errors.As finds no Refusal in %v", short(src), err)
		return
	}
	if want := (unit.Refusal{Line: n, Why: why}); *r != want {
		t.Errorf("%q: %+v, not %+v", short(src), *r, want)
	}
}

// Runs and Examples of the chapter.

func TestRuns(t *testing.T) {
	assembles(t, "a: jmp a", api.Unit{Text: items(label("a"), codeWith(opJmp, 0, lin(0, term("a", 1))))})
	refuses(t, lines("a: nop", "a: nop"), 2, api.ErrDup)
	refuses(t, "global b", 1, api.ErrUndef)
	assembles(t, lines("section data", "x: word y, 3"), api.Unit{Data: items(label("x"), worded(lin(0, term("y", 1))), worded(lin(3)))})
	refuses(t, "r1: nop", 1, api.ErrBad)
	refuses(t, "equ x, x*x", 1, api.ErrBad)
}

func TestExamples(t *testing.T) {
	assembles(t, "", api.Unit{})
	refuses(t, "x: equ x, 1", 1, api.ErrDup)
	assembles(t, lines("global a", "global a", "a:"), api.Unit{Text: items(label("a")), Globals: []string{"a"}})
}

// P9.1: what a source says.

func TestASourceWithEachKindOfThing(t *testing.T) {
	src := lines(
		"; a source with all that there is",
		"global start",
		"start: nop",
		"  lis r1, -5 ; small",
		"loop: add r1, r2",
		"  zset z1, r2, r3",
		"  trap 200",
		"  li r4, far+2",
		"  ldp r5, =2*table-1",
		"  jz r1, loop",
		"  call outside",
		"  equ far, table+40",
		"  align 8",
		"  pool",
		"",
		"section data",
		"table: word loop, 7, table-start",
		"  byte 1, -1, 255",
		"rest: space 12",
		"  align 4",
		"equ size, rest-table",
		"global size",
		"section text",
		"end: halt",
		"global end",
	)
	assembles(t, src, api.Unit{
		Text: items(
			label("start"), code(opNop, 0, 0, 0), code(opLis, 1, 0, -5),
			label("loop"), code(opAdd, 1, 2, 0), code(opZset, 1, 2, 3), code(opTrap, 0, 0, 200),
			codeWith(opLi, 4, lin(2, term("far", 1))), codeWith(opLdp, 5, lin(math.MaxUint32, term("table", 2))),
			codeWith(opJz, 1, lin(0, term("loop", 1))), codeWith(opCall, 0, lin(0, term("outside", 1))),
			counted(api.Align, 8), counted(api.Pool, 0), label("end"), code(opHalt, 0, 0, 0),
		),
		Data: items(
			label("table"), worded(lin(0, term("loop", 1))), worded(lin(7)),
			worded(lin(0, term("start", math.MaxUint32), term("table", 1))),
			counted(api.Byte, 1), counted(api.Byte, -1), counted(api.Byte, 255),
			label("rest"), counted(api.Space, 12), counted(api.Align, 4),
		),
		Equs: []api.Equ{
			equal("far", lin(40, term("table", 1))),
			equal("size", lin(0, term("rest", 1), term("table", math.MaxUint32))),
		},
		Globals: []string{"end", "size", "start"},
	})
}

func TestSourcesThatSayNothing(t *testing.T) {
	for _, src := range []string{"", "\n", "\n\n\n", " ", "\t", "\r\n\r", " \n\t ", ";", "; a: nop", "\n; r1: nop\n", "section data", "section text\n", "section data\nsection data"} {
		assembles(t, src, api.Unit{})
	}
}

func TestTheLastLineWithAndWithoutItsEnd(t *testing.T) {
	for _, src := range []string{"a: nop", "nop\nhalt", "section data\nx: byte 1, 2", "equ x, 1", "a:", "a: nop\nglobal a"} {
		u := taken(t, src)
		assembles(t, src+"\n", u)
		assembles(t, src+"\n\n", u)
		assembles(t, "\n"+src, u)
	}
	for _, c := range []struct {
		src string
		n   int
		why api.Errno
	}{{"nope", 1, api.ErrSyntax}, {"nop\nr2:", 2, api.ErrBad}, {"a:\na:", 2, api.ErrDup}, {"nop\nglobal a", 2, api.ErrUndef}} {
		refuses(t, c.src, c.n, c.why)
		refuses(t, c.src+"\n", c.n, c.why)
		refuses(t, c.src+"\n\n\n", c.n, c.why)
	}
}

func TestALabelAlone(t *testing.T) {
	assembles(t, "a:", api.Unit{Text: items(label("a"))})
	assembles(t, " a :  ; alone", api.Unit{Text: items(label("a"))})
	assembles(t, lines("a:", "b:", "nop", "c:"), api.Unit{Text: items(label("a"), label("b"), code(opNop, 0, 0, 0), label("c"))})
	assembles(t, lines("section data", "a:"), api.Unit{Data: items(label("a"))})
}

func TestALabelStandsAheadOfWhatItsLineSays(t *testing.T) {
	assembles(t, "a: halt", api.Unit{Text: items(label("a"), code(opHalt, 0, 0, 0))})
	assembles(t, "a: pool", api.Unit{Text: items(label("a"), counted(api.Pool, 0))})
	assembles(t, lines("nop", "a: align 2", "nop"), api.Unit{Text: items(code(opNop, 0, 0, 0), label("a"), counted(api.Align, 2), code(opNop, 0, 0, 0))})
	assembles(t, lines("section data", "a: byte 1, 2"), api.Unit{Data: items(label("a"), counted(api.Byte, 1), counted(api.Byte, 2))})
	assembles(t, "a: equ b, 3", api.Unit{Text: items(label("a")), Equs: []api.Equ{equal("b", lin(3))}})
	assembles(t, "a: global a", api.Unit{Text: items(label("a")), Globals: []string{"a"}})
}

func TestALabelBesideASectionStandsInTheOneAhead(t *testing.T) {
	assembles(t, lines("a: section data", "b: section text", "c: nop"), api.Unit{
		Text: items(label("a"), label("c"), code(opNop, 0, 0, 0)),
		Data: items(label("b")),
	})
	assembles(t, lines("a: section text", "b: section data", "c: section data", "d:"), api.Unit{
		Text: items(label("a"), label("b")),
		Data: items(label("c"), label("d")),
	})
}

func TestSectionsInTurns(t *testing.T) {
	assembles(t, lines("nop", "section data", "byte 1", "section text", "halt", "section text", "ret", "section data", "byte 2", "section data", "byte 3"), api.Unit{
		Text: items(code(opNop, 0, 0, 0), code(opHalt, 0, 0, 0), code(opRet, 0, 0, 0)),
		Data: items(counted(api.Byte, 1), counted(api.Byte, 2), counted(api.Byte, 3)),
	})
}

func TestALineIsReadInItsSection(t *testing.T) {
	for _, s := range []string{"nop", "jmp a", "ldp r1, =3", "pool"} {
		refuses(t, lines("section data", s), 2, api.ErrBad)
		refuses(t, lines("section data", "section text", s, "section data", s), 5, api.ErrBad)
		taken(t, lines("section data", "section text", s))
		taken(t, s)
	}
	for _, s := range []string{"byte 1", "word a", "space 3"} {
		refuses(t, s, 1, api.ErrBad)
		refuses(t, lines("section data", s, "section text", s), 4, api.ErrBad)
		taken(t, lines("section data", s))
	}
	for _, s := range []string{"align 2", "a:", "equ a, 1", "", "section data"} {
		taken(t, s)
		taken(t, lines("section data", s))
	}
}

func TestEqusInOrder(t *testing.T) {
	assembles(t, lines("equ b, a+1", "equ a, 2", "nop", "section data", "equ c, c", "equ _, -1"), api.Unit{
		Text: items(code(opNop, 0, 0, 0)),
		Equs: []api.Equ{equal("b", lin(1, term("a", 1))), equal("a", lin(2)), equal("c", lin(0, term("c", 1))), equal("_", lin(math.MaxUint32))},
	})
}

func TestGlobalsRiseAndStandOnce(t *testing.T) {
	for _, c := range []struct {
		asked, want string
	}{
		{"b a", "a b"},
		{"a b", "a b"},
		{"a a", "a"},
		{"b a b a b", "a b"},
		{"a B _ b A ab aa a1", "A B _ a a1 aa ab b"},
		{"b2 b10 b1", "b1 b10 b2"},
		{"e d e", "d e"},
	} {
		asked, want := strings.Fields(c.asked), strings.Fields(c.want)
		globals := "global " + strings.Join(asked, "\nglobal ")
		given := strings.Join(want, ":\n") + ":"
		// Whether the names are given ahead or behind does not matter, nor in which section or way.
		for _, src := range []string{lines(globals, given), lines(given, globals), lines(globals, "section data", given), lines("equ "+strings.Join(want, ", 1\nequ ")+", 1", globals)} {
			if u := taken(t, src); !slices.Equal(u.Globals, want) {
				t.Errorf("%q: %v, not %v", src, u.Globals, want)
			}
		}
	}
}

// P9.1: what is refused.

func TestWhatNoLineIs(t *testing.T) {
	for _, s := range []string{"$", "nop nop:", "add r1,", "add , r1", ":", ": nop", "3", "a: b: c", "a a:", "007", "'", "\v", "a: nop\f", "é:", strings.Repeat("a", api.MaxName+1) + ":", "\x00"} {
		refuses(t, s, 1, api.ErrSyntax)
		refuses(t, lines("nop", s, "nop"), 2, api.ErrSyntax)
	}
	taken(t, strings.Repeat("a", api.MaxName)+": nop")
}

func TestLabelsThatAreRegisters(t *testing.T) {
	for _, s := range []string{"r0", "r1", "r2", "r3", "r4", "r5", "r6", "r7", "z0", "z1", "z2", "z3"} {
		for _, rest := range []string{":", ": nop", ": equ a, 1", ": section data", ":global a"} {
			refuses(t, s+rest, 1, api.ErrBad)
			refuses(t, lines("a: nop", "section data", "", s+rest), 4, api.ErrBad)
		}
	}
	for _, s := range []string{"r8", "z4", "r", "z", "r10", "R1", "Z0", "r01", "nop", "jmp", "equ", "section", "text", "data"} {
		assembles(t, s+":", api.Unit{Text: items(label(s))})
	}
}

func TestWhatNoThingIs(t *testing.T) {
	for _, c := range []struct {
		s   string
		why api.Errno
	}{
		{"nope", api.ErrSyntax}, {"nop r1", api.ErrSyntax}, {"add r1", api.ErrSyntax}, {"add r1, z2", api.ErrSyntax},
		{"lis r1, 200", api.ErrBad}, {"lis r1, a", api.ErrBad}, {"trap 256", api.ErrBad}, {"align 3", api.ErrBad},
		{"equ r1, 1", api.ErrSyntax}, {"equ x", api.ErrSyntax}, {"equ x, y*z", api.ErrBad}, {"equ x, r1", api.ErrSyntax},
		{"global r1", api.ErrSyntax}, {"global", api.ErrSyntax}, {"global 1", api.ErrSyntax}, {"global a, b", api.ErrSyntax},
		{"section", api.ErrSyntax}, {"section bss", api.ErrSyntax}, {"section text, data", api.ErrSyntax},
		{"byte 1", api.ErrBad}, {"word", api.ErrSyntax}, {"space 1", api.ErrBad}, {"jmp r1", api.ErrSyntax},
	} {
		refuses(t, c.s, 1, c.why)
		refuses(t, lines("", "c: "+c.s, "nop"), 2, c.why)
	}
	refuses(t, lines("section data", "byte 1, 300"), 2, api.ErrBad)
	refuses(t, lines("section data", "space -1"), 2, api.ErrBad)
}

// Each way in which a line gives the name a.
func givings() []string {
	return []string{"a:", "a: align 2", "equ a, 1", "b: equ a, b"}
}

func TestNamesGivenTwice(t *testing.T) {
	for _, first := range givings() {
		for _, second := range givings() {
			second = strings.Replace(second, "b:", "c:", 1)
			for _, between := range []string{"d:", "section data", "section data\nsection text", "equ d, a"} {
				n := 3 + strings.Count(between, "\n")
				refuses(t, lines(first, between, second), n, api.ErrDup)
				refuses(t, lines(first, between, second, second), n, api.ErrDup)
				refuses(t, lines("section data", first, "section text", between, second), n+2, api.ErrDup)
			}
		}
	}
	for _, s := range []string{"a: equ a, 1", "a: equ a, a", "a : equ a,0 ; both"} {
		refuses(t, s, 1, api.ErrDup)
		refuses(t, lines("section data", "b:", s), 3, api.ErrDup)
	}
	// A label is refused though its line says an equ of another name.
	refuses(t, lines("a:", "a: equ b, 1"), 2, api.ErrDup)
	refuses(t, lines("equ a, 1", "a: equ b, 1"), 2, api.ErrDup)
}

func TestNamesThatAreNotGivenTwice(t *testing.T) {
	taken(t, lines("a:", "A:", "aa:", "equ _a, a", "a1: equ a2, 1"))
	// What uses a name does not give it.
	taken(t, lines("jmp a", "global a", "equ b, a", "a:", "call a", "global a", "section data", "word a, b"))
	// The label of a line may be the operation's name, or a name in its expression.
	taken(t, lines("nop: nop", "a: equ b, a"))
}

func TestGlobalsThatNobodyGives(t *testing.T) {
	refuses(t, "global a", 1, api.ErrUndef)
	refuses(t, lines("jmp a", "global a", "word: li r1, a"), 2, api.ErrUndef)
	refuses(t, lines("equ b, a", "a1:", "global a", "A:"), 3, api.ErrUndef)
	refuses(t, lines("b: global a"), 1, api.ErrUndef)
	// The first by lines, not by names, and of those that nobody gives.
	refuses(t, lines("global z", "global y"), 1, api.ErrUndef)
	refuses(t, lines("global b", "global z", "global y", "b:"), 2, api.ErrUndef)
	refuses(t, lines("global a", "global z", "global b", "global z", "b:", "equ a, 1"), 2, api.ErrUndef)
}

func TestTheFirstLineThatIsRefused(t *testing.T) {
	wrong := []struct {
		s   string
		why api.Errno
	}{{"$", api.ErrSyntax}, {"r1:", api.ErrBad}, {"nope", api.ErrSyntax}, {"align 3", api.ErrBad}, {"a:", api.ErrDup}, {"b: equ b, 1", api.ErrDup}}
	for _, x := range wrong {
		for _, y := range wrong {
			refuses(t, lines("a:", x.s, y.s), 2, x.why)
			refuses(t, lines("", "a:", "", x.s, "nop", y.s, ""), 4, x.why)
		}
		// A global stands behind all lines.
		refuses(t, lines("global q", "a:", x.s), 3, x.why)
		refuses(t, lines("a:", x.s, "global q"), 2, x.why)
	}
}

func TestTwoRefusalsOfOneLine(t *testing.T) {
	for _, c := range []struct {
		s   string
		why api.Errno
	}{
		// What is no line, with a label that is a register, an operation that there is not, a name given twice.
		{"r1: add r1,", api.ErrSyntax}, {"r1: nop $", api.ErrSyntax}, {"a: align 3 :", api.ErrSyntax}, {"a: align 3,", api.ErrSyntax},
		// A label that is a register, with what no thing is.
		{"r1: nope", api.ErrBad}, {"z0: add r1", api.ErrBad}, {"r1: section bss", api.ErrBad}, {"r1: equ a, 1", api.ErrBad},
		// What no thing is, with a name given twice.
		{"a: nope", api.ErrSyntax}, {"a: align 3", api.ErrBad}, {"equ a", api.ErrSyntax}, {"equ a, b*b", api.ErrBad}, {"b: equ b, )", api.ErrSyntax}, {"a: byte 1", api.ErrBad},
		// A name given twice, with a global that nobody gives.
		{"a: global q", api.ErrDup},
	} {
		refuses(t, lines("a:", c.s), 2, c.why)
	}
}

// The limits.

// padded answers src with blanks behind it, so that it has so many bytes.
func padded(src string, size int) string {
	return src + strings.Repeat(" ", size-len(src))
}

func TestTheLengthOfASource(t *testing.T) {
	for _, src := range []string{"", "a: nop\n", "a: nop ;"} {
		u := taken(t, src)
		assembles(t, padded(src, api.MaxText-1), u)
		assembles(t, padded(src, api.MaxText), u)
		refuses(t, padded(src, api.MaxText+1), 0, api.ErrLong)
		refuses(t, padded(src, 2*api.MaxText), 0, api.ErrLong)
	}
	refuses(t, padded("nope", api.MaxText), 1, api.ErrSyntax)
	// Bytes are counted, not runes.
	refuses(t, ";"+strings.Repeat("é", api.MaxText/2), 0, api.ErrLong)
	taken(t, ";"+strings.Repeat("é", api.MaxText/2-1))
}

func TestTheNumberOfLines(t *testing.T) {
	for _, s := range []string{"", ";", "nop", "section data", "equ"} {
		good := s != "equ"
		// Each has its end.
		full := strings.Repeat(s+"\n", api.MaxLines)
		if _, err := unit.Assemble(full); good != (err == nil) {
			t.Errorf("%d lines %q: %v", api.MaxLines, s, err)
		}
		refuses(t, full+"\n", api.MaxLines+1, api.ErrMany)
		refuses(t, full+" ", api.MaxLines+1, api.ErrMany)
		refuses(t, full+"nop", api.MaxLines+1, api.ErrMany)
		refuses(t, full+"\n\n\n", api.MaxLines+1, api.ErrMany)
	}
	// The last one has none.
	last := strings.Repeat("\n", api.MaxLines-1)
	assembles(t, last+"nop", api.Unit{Text: items(code(opNop, 0, 0, 0))})
	assembles(t, last+"nop\n", api.Unit{Text: items(code(opNop, 0, 0, 0))})
	refuses(t, last+"nope", api.MaxLines, api.ErrSyntax)
	refuses(t, last+"global a", api.MaxLines, api.ErrUndef)
	refuses(t, last+"\nnop", api.MaxLines+1, api.ErrMany)
}

func TestTheLimitsOfTheWholeAheadOfTheLines(t *testing.T) {
	for _, s := range []string{"$", "r1:", "nope", "align 3", "a:\na:", "a: equ a, 1", "global q"} {
		refuses(t, s+strings.Repeat("\n", api.MaxLines+1), api.MaxLines+1, api.ErrMany)
		refuses(t, padded(s, api.MaxText+1), 0, api.ErrLong)
		refuses(t, padded(s+strings.Repeat("\n", api.MaxLines+1), api.MaxText+1), 0, api.ErrLong)
	}
}

// bytesOf answers a line with so many items.
func bytesOf(n int) string {
	return "byte 1" + strings.Repeat(",1", n-1)
}

// full answers a source of 5 lines with so many items; data holds behind it.
func full(n int) string {
	return lines("t: nop", "section data", bytesOf(1000), bytesOf(3000), bytesOf(n-4002)) + "\n"
}

func TestTheNumberOfItems(t *testing.T) {
	for _, c := range []struct {
		ahead int
		s     string
	}{
		{1, "byte 1"}, {1, "a:"}, {1, "a: equ b, 1"}, {1, "a: global a"}, {1, "a: section text"}, {1, "section text\nnop"}, {1, "section text\na:"},
		{2, "byte 1, 2"}, {2, "a: byte 1"}, {2, "section text\na: nop"}, {2, "a: align 2"}, {2, "word 1, a"}, {3, "a: word 1, 2"},
		{100, bytesOf(100)}, {100, "a: " + bytesOf(99)}, {1, "space 4000"},
	} {
		n := 6 + strings.Count(c.s, "\n")
		u := taken(t, full(api.MaxItems-c.ahead)+c.s)
		if len(u.Text)+len(u.Data) != api.MaxItems {
			t.Errorf("%q: %d items", short(c.s), len(u.Text)+len(u.Data))
		}
		if why := unit.Right(u); why != api.OK {
			t.Errorf("%q: %v", short(c.s), why)
		}
		refuses(t, full(api.MaxItems-c.ahead+1)+c.s, n, api.ErrMany)
		refuses(t, full(api.MaxItems)+c.s, n, api.ErrMany)
	}
	refuses(t, full(api.MaxItems+1), 5, api.ErrMany)
	refuses(t, lines("section data", bytesOf(api.MaxItems+1)), 2, api.ErrMany)
	refuses(t, lines("section data", "a: "+bytesOf(api.MaxItems)), 2, api.ErrMany)
	taken(t, lines("section data", bytesOf(api.MaxItems)))
	taken(t, lines("section data", "a: "+bytesOf(api.MaxItems-1)))
}

func TestWhatIsNoItemIsNotCounted(t *testing.T) {
	for _, s := range []string{"", "; a", "equ a, 1", "global t", "section text", "section data", "equ a, 1\nequ b, a\nglobal b\n\nsection text"} {
		u := taken(t, full(api.MaxItems)+s)
		if len(u.Text)+len(u.Data) != api.MaxItems {
			t.Errorf("%q: %d items", s, len(u.Text)+len(u.Data))
		}
		refuses(t, lines(full(api.MaxItems)+s, "q:"), 7+strings.Count(s, "\n"), api.ErrMany)
	}
}

func TestAsManyLabelsAndInstructionsAsLinesCanHold(t *testing.T) {
	var b strings.Builder
	for n := range api.MaxLines {
		b.WriteString("l" + strconv.Itoa(n) + ":nop\n")
	}
	u := taken(t, b.String())
	if len(u.Text) != 2*api.MaxLines || unit.Right(u) != api.OK || len(unit.Names(u)) != api.MaxLines {
		t.Errorf("%d items, %v", len(u.Text), unit.Right(u))
	}
	for n := range api.MaxLines {
		if u.Text[2*n].Name != "l"+strconv.Itoa(n) || u.Text[2*n+1].Inst.Op != opNop {
			t.Fatalf("line %d: %+v, %+v", n+1, u.Text[2*n], u.Text[2*n+1])
		}
	}
}

func TestTooManyItemsAndOtherRefusals(t *testing.T) {
	for _, c := range []struct {
		s   string
		why api.Errno
	}{
		{"byte 1 $", api.ErrSyntax}, {"r1: byte 1", api.ErrBad}, {"byte 1, 300", api.ErrBad}, {"nop", api.ErrBad}, {"q: nope", api.ErrSyntax},
		{"t:", api.ErrDup}, {"t: byte 1", api.ErrDup}, {"q: equ q, 1", api.ErrDup}, {"q: equ t, 1", api.ErrDup}, {"equ t, 1", api.ErrDup},
		{"q: global w", api.ErrMany}, {"q: equ w, 1", api.ErrMany},
	} {
		refuses(t, full(api.MaxItems)+c.s, 6, c.why)
		// A line that is refused ahead of it.
		refuses(t, lines("nop", "nope", full(api.MaxItems)+c.s), 2, api.ErrSyntax)
	}
	refuses(t, lines("global w", full(api.MaxItems+1)), 6, api.ErrMany)
	refuses(t, lines("global w", full(api.MaxItems)), 1, api.ErrUndef)
}

// What refuses wraps a number.

func TestRefusalsWrapTheirNumbers(t *testing.T) {
	for _, c := range []struct {
		src string
		n   int
		why api.Errno
	}{
		{strings.Repeat(" ", api.MaxText+1), 0, api.ErrLong},
		{strings.Repeat("\n", api.MaxLines+1), api.MaxLines + 1, api.ErrMany},
		{full(api.MaxItems + 1), 5, api.ErrMany},
		{"\n$", 2, api.ErrSyntax}, {"nope", 1, api.ErrSyntax}, {"r1:", 1, api.ErrBad}, {"align 3", 1, api.ErrBad},
		{"a:\na:", 2, api.ErrDup}, {"\n\nglobal a", 3, api.ErrUndef},
	} {
		_, err := unit.Assemble(c.src)
		for _, n := range numbers() {
			if errors.Is(err, n) != (n == c.why) {
				t.Errorf("%q: errors.Is(%v, %d) is %v", short(c.src), err, int(n), n != c.why)
			}
		}
		var why api.Errno
		if !errors.As(err, &why) || why != c.why {
			t.Errorf("%q: errors.As finds the number %v, not %v", short(c.src), why, c.why)
		}
		var r, s *unit.Refusal
		if !errors.As(err, &r) || r.Line != c.n || r.Why != c.why {
			t.Fatalf("%q: errors.As finds %+v", short(c.src), r)
		}
		if r.Unwrap() != error(c.why) || errors.Unwrap(err) != error(c.why) {
			t.Errorf("%q: Unwrap answers %v", short(c.src), r.Unwrap())
		}
		if r.Error() == "" || err.Error() == "" {
			t.Errorf("%q: an error without words", short(c.src))
		}
		_, err = unit.Assemble(c.src)
		if !errors.As(err, &s) || r == s || *r != *s {
			t.Errorf("%q: the second Refusal %p %+v is no new one beside %p %+v", short(c.src), s, s, r, r)
		}
		// Whoever changes one changes no other.
		*r = unit.Refusal{Line: -1}
		refuses(t, c.src, c.n, c.why)
	}
}

// All short sources against the chapter, said anew.

// fact is a line and what it says in Text and in Data: why it is refused ahead of its names, or its items; its label,
// the name of its equ, the name of its global and the section behind it (0 none, 1 Text, 2 Data).
type fact struct {
	s                  string
	why                [2]api.Errno
	items              [2][]api.Item
	label, equ, global string
	to                 int
}

func facts() []fact {
	none := [2][]api.Item{}
	inText := [2]api.Errno{api.OK, api.ErrBad}
	inData := [2]api.Errno{api.ErrBad, api.OK}
	both := func(why api.Errno) [2]api.Errno { return [2]api.Errno{why, why} }
	return []fact{
		{s: "; a:", items: none},
		{s: "a:", label: "a"},
		{s: "b: nop", label: "b", why: inText, items: [2][]api.Item{{code(opNop, 0, 0, 0)}}},
		{s: "jmp b", why: inText, items: [2][]api.Item{{codeWith(opJmp, 0, lin(0, term("b", 1)))}}},
		{s: "a: byte 2,3", label: "a", why: inData, items: [2][]api.Item{1: {counted(api.Byte, 2), counted(api.Byte, 3)}}},
		{s: "c: align 4", label: "c", items: [2][]api.Item{{counted(api.Align, 4)}, {counted(api.Align, 4)}}},
		{s: "equ a, 7", equ: "a"},
		{s: "b: equ c, 7", label: "b", equ: "c"},
		{s: "c: equ c, 7", label: "c", equ: "c"},
		{s: "global a", global: "a"},
		{s: "a: global b", label: "a", global: "b"},
		{s: "section data", to: 2},
		{s: "b: section text", label: "b", to: 1},
		{s: "r1: nope", why: both(api.ErrBad)},
		{s: "a: nope", why: both(api.ErrSyntax)},
		{s: "r1: add r1,", why: both(api.ErrSyntax)},
	}
}

// model answers what the chapter says of these lines.
func model(l []fact) (api.Unit, int, api.Errno) {
	var u api.Unit
	given := map[string]bool{}
	sections := [2]*[]api.Item{&u.Text, &u.Data}
	section := item.Text
	for n, f := range l {
		if f.why[section] != api.OK {
			return api.Unit{}, n + 1, f.why[section]
		}
		if f.label != "" && given[f.label] || f.equ != "" && given[f.equ] || f.label != "" && f.label == f.equ {
			return api.Unit{}, n + 1, api.ErrDup
		}
		if f.label != "" {
			given[f.label] = true
			*sections[section] = append(*sections[section], label(f.label))
		}
		*sections[section] = append(*sections[section], f.items[section]...)
		if f.equ != "" {
			given[f.equ] = true
			u.Equs = append(u.Equs, equal(f.equ, lin(7)))
		}
		if f.to != 0 {
			section = f.to - 1
		}
	}
	for n, f := range l {
		if f.global != "" && !given[f.global] {
			return api.Unit{}, n + 1, api.ErrUndef
		}
	}
	for _, name := range []string{"a", "b"} {
		if slices.ContainsFunc(l, func(f fact) bool { return f.global == name }) {
			u.Globals = append(u.Globals, name)
		}
	}
	return u, 0, api.OK
}

// each hands out all lists of at most so many of l.
func each[T any](l []T, most int, do func([]T)) {
	var from func(head []T)
	from = func(head []T) {
		do(head)
		if len(head) == most {
			return
		}
		for _, x := range l {
			from(append(head[:len(head):len(head)], x))
		}
	}
	from(nil)
}

// told holds what is answered of src against what it must be.
func told(t *testing.T, src string, want api.Unit, n int, why api.Errno) {
	t.Helper()
	got, err := unit.Assemble(src)
	var r *unit.Refusal
	switch {
	case why == api.OK:
		if err != nil || !same(got, want) || unit.Right(got) != api.OK {
			t.Fatalf("%q: %+v, %v, %v; not %+v", src, got, err, unit.Right(got), want)
		}
	case !errors.As(err, &r) || r.Line != n || r.Why != why || !same(got, api.Unit{}):
		t.Fatalf("%q: %+v, %v; not %v at %d", src, got, err, why, n)
	}
}

func TestAllShortSources(t *testing.T) {
	refused, units := 0, 0
	each(facts(), 4, func(l []fact) {
		var src []string
		for _, f := range l {
			src = append(src, f.s)
		}
		want, n, why := model(l)
		told(t, lines(src...), want, n, why)
		if why == api.OK {
			units++
		} else {
			refused++
		}
	})
	if refused < 10000 || units < 1000 {
		t.Errorf("%d refused, %d units: the lines are too much alike", refused, units)
	}
}

// P9.4: remarks, blanks and empty lines change nothing but lines.
func TestRemarksBlanksAndEmptyLines(t *testing.T) {
	each(facts(), 3, func(l []fact) {
		var remarked, blank, sparse []string
		for _, f := range l {
			remarked = append(remarked, f.s+" ; a: nope $ é")
			blank = append(blank, "\t "+strings.NewReplacer(":", " \t:  ", ",", " , ", " ", "  \t").Replace(f.s)+" \t\r")
			sparse = append(sparse, "", f.s, ";")
		}
		want, n, why := model(l)
		told(t, lines(remarked...), want, n, why)
		told(t, lines(blank...), want, n, why)
		if n > 0 {
			n = 3*n - 1
		}
		told(t, lines(sparse...), want, n, why)
	})
}

// P9.2

// someUnit answers a right unit with each kind of thing.
func someUnit() api.Unit {
	return api.Unit{
		Text: items(label("a"), code(opAdd, 7, 0, 0), code(opZset, 3, 7, 7), code(opLis, 0, 0, -128), codeWith(opJnz, 7, lin(1, term("a", 1), term("x", 2))),
			counted(api.Align, 256), counted(api.Pool, 0), codeWith(opCall, 0, lin(0)), label("c")),
		Data:    items(label("b"), worded(lin(9, term("a", 1), term("b", math.MaxUint32))), counted(api.Byte, -128), counted(api.Space, api.MaxImage), counted(api.Align, 1)),
		Equs:    []api.Equ{equal("e", lin(3, term("e", 1))), equal("d", lin(0, term("a", 1), term("q", 5)))},
		Globals: []string{"a", "b", "d", "e"},
	}
}

// judged tells what Right, Names and Spans must answer of u: of what is not right there are no names and no spans.
func judged(t *testing.T, u api.Unit, want api.Errno) {
	t.Helper()
	if why := unit.Right(u); why != want {
		t.Errorf("Right(%+v): %v, not %v", u, why, want)
	}
	if want == api.OK {
		return
	}
	if names, spans := unit.Names(u), unit.Spans(u); len(names) != 0 || spans != 0 {
		t.Errorf("%+v is not right, and there are the names %v and %d spans", u, names, spans)
	}
}

func TestRightUnits(t *testing.T) {
	judged(t, api.Unit{}, api.OK)
	judged(t, someUnit(), api.OK)
	judged(t, api.Unit{Text: items(codeWith(opJmp, 0, lin(0, term("nobody", 1))))}, api.OK)
	judged(t, api.Unit{Equs: []api.Equ{equal("a", lin(0, term("a", 1)))}, Globals: []string{"a"}}, api.OK)
	judged(t, api.Unit{Equs: []api.Equ{equal(strings.Repeat("x", api.MaxName), lin(0))}}, api.OK)
	judged(t, api.Unit{Text: items(label("a"), label("B"), label("_"), label("ab")), Globals: []string{"B", "_", "a", "ab"}}, api.OK)
}

func TestItemsThatAreNotRightThere(t *testing.T) {
	wrong := [2][]api.Item{
		item.Text: items(counted(api.Byte, 1), worded(lin(1)), counted(api.Space, 0)),
		item.Data: items(code(opNop, 0, 0, 0), codeWith(opJmp, 0, lin(0)), counted(api.Pool, 0)),
	}
	anywhere := items(api.Item{}, counted(-1, 0), counted(8, 0), label(""), label("r1"), label("1a"), label("a b"), label(strings.Repeat("a", api.MaxName+1)),
		code(0, 0, 0, 0), code(44, 0, 0, 0), code(opNop, 1, 0, 0), code(opAdd, 8, 0, 0), code(opAdd, 0, -1, 0), code(opLis, 0, 0, 128), code(opTrap, 0, 0, 256),
		code(opJmp, 0, 0, 1), codeWith(opJmp, 1, lin(0)), codeWith(opJz, 8, lin(0)), codeWith(opNop, 0, lin(1)),
		codeWith(opJmp, 0, lin(0, term("b", 1), term("a", 1))), codeWith(opLi, 0, lin(0, term("a", 0))),
		worded(lin(0, term("r1", 1))), worded(lin(0, term("a", 1), term("a", 1))),
		counted(api.Align, 0), counted(api.Align, 3), counted(api.Align, 512), counted(api.Byte, 256), counted(api.Byte, -129), counted(api.Space, -1), counted(api.Space, api.MaxImage+1),
		counted(api.Pool, 1), api.Item{Kind: api.Label, Name: "q", N: 1}, api.Item{Kind: api.Align, N: 2, Name: "q"}, api.Item{Kind: api.Code, Inst: api.Inst{Op: opJmp, Form: 1}})
	for section, l := range wrong {
		for _, x := range append(l, anywhere...) {
			for place := range 4 {
				u := someUnit()
				if section == item.Text {
					u.Text = slices.Insert(u.Text, place, x)
				} else {
					u.Data = slices.Insert(u.Data, place, x)
				}
				judged(t, u, api.ErrUnit)
			}
			u := someUnit()
			if section == item.Text {
				u.Text = append(u.Text, x)
			} else {
				u.Data = append(u.Data, x)
			}
			judged(t, u, api.ErrUnit)
		}
	}
}

func TestEqusThatAreNotRight(t *testing.T) {
	for _, name := range []string{"", "r0", "r7", "z3", "1", "a b", "a:", "é", " a", "a\n", strings.Repeat("x", api.MaxName+1)} {
		judged(t, api.Unit{Equs: []api.Equ{equal(name, lin(1))}}, api.ErrUnit)
		for place := range 3 {
			u := someUnit()
			u.Equs = slices.Insert(u.Equs, place, equal(name, lin(1)))
			judged(t, u, api.ErrUnit)
		}
	}
	for _, e := range []api.Lin{lin(0, term("a", 0)), lin(0, term("b", 1), term("a", 1)), lin(0, term("a", 1), term("a", 1)), lin(0, term("r1", 1)), lin(0, term("", 1)), lin(0, term("a", 1), term("b c", 1))} {
		judged(t, api.Unit{Equs: []api.Equ{equal("x", e)}}, api.ErrUnit)
		for place := range 3 {
			u := someUnit()
			u.Equs = slices.Insert(u.Equs, place, equal("x", e))
			judged(t, u, api.ErrUnit)
		}
	}
}

func TestNamesOfAUnitGivenTwice(t *testing.T) {
	names := unit.Names(someUnit())
	for _, name := range append(names, "new") {
		want := api.ErrUnit
		if name == "new" {
			want = api.OK
		}
		for place := range 3 {
			u := someUnit()
			u.Text = slices.Insert(u.Text, place, label(name))
			judged(t, u, want)
			u = someUnit()
			u.Data = slices.Insert(u.Data, place, label(name))
			judged(t, u, want)
			u = someUnit()
			u.Equs = slices.Insert(u.Equs, place, equal(name, lin(0)))
			judged(t, u, want)
		}
	}
}

func TestGlobalsThatAreNotRight(t *testing.T) {
	for _, globals := range [][]string{
		{"b", "a"}, {"a", "a"}, {"a", "b", "b"}, {"a", "d", "b"}, {"a", "b", "d", "e", "a"}, {"e", "d", "b", "a"},
		{"x"}, {""}, {"q"}, {"A"}, {"a", "x"}, {"x", "a"}, {"a", "aa"}, {"r1"}, {"a", "b", "d", "e", "f"}, {"", "a"}, {"a", ""},
	} {
		u := someUnit()
		u.Globals = globals
		judged(t, u, api.ErrUnit)
	}
	for _, globals := range [][]string{nil, {}, {"a"}, {"e"}, {"c"}, {"a", "c"}, {"b", "e"}, {"a", "b", "c", "d", "e"}} {
		u := someUnit()
		u.Globals = globals
		judged(t, u, api.OK)
	}
	// Go's order: great letters stand ahead of _ and that ahead of small ones.
	u := api.Unit{Text: items(label("a"), label("B"), label("_")), Globals: []string{"a", "B"}}
	judged(t, u, api.ErrUnit)
	u.Globals = []string{"_", "B"}
	judged(t, u, api.ErrUnit)
}

func TestUnitsOfTooMuch(t *testing.T) {
	nops := slices.Repeat(items(code(opNop, 0, 0, 0)), api.MaxItems+1)
	ones := slices.Repeat(items(counted(api.Byte, 1)), api.MaxItems+1)
	var equs []api.Equ
	var globals []string
	for n := range api.MaxItems + 1 {
		equs = append(equs, equal("n"+strconv.Itoa(10000+n), lin(uint32(n))))
		globals = append(globals, equs[n].Name)
	}
	for _, c := range []struct {
		text, data int
	}{{api.MaxItems, 0}, {0, api.MaxItems}, {1, api.MaxItems - 1}, {api.MaxItems / 2, api.MaxItems / 2}} {
		judged(t, api.Unit{Text: nops[:c.text], Data: ones[:c.data]}, api.OK)
		judged(t, api.Unit{Text: nops[:c.text], Data: ones[:c.data], Equs: equs[:api.MaxItems], Globals: globals[:api.MaxItems]}, api.OK)
		judged(t, api.Unit{Text: nops[:c.text+1], Data: ones[:c.data]}, api.ErrMany)
		judged(t, api.Unit{Text: nops[:c.text], Data: ones[:c.data+1]}, api.ErrMany)
		judged(t, api.Unit{Text: nops[:c.text], Data: ones[:c.data], Equs: equs}, api.ErrMany)
		// What is not right, too.
		judged(t, api.Unit{Text: nops[:c.text+1], Data: ones[:c.data], Globals: []string{"q"}}, api.ErrMany)
		judged(t, api.Unit{Text: ones[:c.text+1], Data: nops[:c.data]}, api.ErrMany)
		judged(t, api.Unit{Text: nops[:c.text+1], Data: ones[:c.data], Equs: equs[:1], Globals: globals[:2]}, api.ErrMany)
	}
	judged(t, api.Unit{Equs: equs[:api.MaxItems]}, api.OK)
	judged(t, api.Unit{Equs: equs}, api.ErrMany)
	judged(t, api.Unit{Equs: make([]api.Equ, api.MaxItems)}, api.ErrUnit)
	judged(t, api.Unit{Equs: make([]api.Equ, api.MaxItems+1)}, api.ErrMany)
	judged(t, api.Unit{Text: ones[:1], Equs: equs}, api.ErrMany)
	// More globals than names: the first that is too many is none of them.
	judged(t, api.Unit{Equs: equs[:api.MaxItems], Globals: globals}, api.ErrUnit)
	judged(t, api.Unit{Globals: slices.Repeat([]string{"a"}, 100000)}, api.ErrUnit)
}

// rightByTheChapter is P9.2 said anew, for units that are small.
func rightByTheChapter(u api.Unit, bad func(api.Item) bool) bool {
	var names []string
	for _, x := range append(slices.Clone(u.Text), u.Data...) {
		if bad(x) {
			return false
		}
		if x.Kind == api.Label {
			names = append(names, x.Name)
		}
	}
	for _, q := range u.Equs {
		if q.Name == "r1" || q.E.Const == 99 {
			return false
		}
		names = append(names, q.Name)
	}
	for n, name := range names {
		if slices.Contains(names[:n], name) {
			return false
		}
	}
	for n, g := range u.Globals {
		if n > 0 && g <= u.Globals[n-1] || !slices.Contains(names, g) {
			return false
		}
	}
	return true
}

func TestAllSmallUnits(t *testing.T) {
	text := items(label("a"), label("b"), code(opNop, 0, 0, 0), counted(api.Align, 3))
	data := items(label("a"), worded(lin(0, term("c", 1))), counted(api.Pool, 0))
	// The expression of the second one is not right; it is known by its number.
	equs := []api.Equ{equal("a", lin(0)), equal("b", lin(99, term("a", 0))), equal("b", lin(0, term("b", 1))), equal("r1", lin(0))}
	globals := []string{"a", "b", "c", "r1"}
	bad := func(x api.Item) bool { return x.Kind == api.Pool || x.Kind == api.Align }
	right := 0
	each(text, 2, func(text []api.Item) {
		each(data, 2, func(data []api.Item) {
			each(equs, 2, func(equs []api.Equ) {
				each(globals, 2, func(globals []string) {
					u := api.Unit{Text: text, Data: data, Equs: equs, Globals: globals}
					want := api.ErrUnit
					if rightByTheChapter(u, bad) {
						want = api.OK
						right++
					}
					if why := unit.Right(u); why != want {
						t.Fatalf("%+v: %v, not %v", u, why, want)
					}
				})
			})
		})
	})
	if right < 100 {
		t.Errorf("%d right units: too few", right)
	}
}

// P9.3

func TestNames(t *testing.T) {
	for _, c := range []struct {
		src, want string
	}{
		{"", ""}, {"nop", ""}, {"jmp q", ""}, {"a:", "a"}, {"equ a, 1", "a"}, {"b: equ a, q", "a b"}, {"b:\na:", "a b"},
		{"z:\nsection data\ny: word q\nequ x, q\nsection text\nw:\nglobal y", "w x y z"},
		{"ab:\na:\nB:\n_:\na1:\nb:\nb10:\nb9:", "B _ a a1 ab b b10 b9"},
	} {
		if names := unit.Names(taken(t, c.src)); !slices.Equal(names, strings.Fields(c.want)) {
			t.Errorf("%q: %v, not %v", c.src, names, c.want)
		}
	}
	if names := unit.Names(someUnit()); !slices.Equal(names, []string{"a", "b", "c", "d", "e"}) {
		t.Error(names)
	}
}

func TestSpans(t *testing.T) {
	for _, c := range []struct {
		src  string
		want int
	}{
		{"", 0}, {"jmp a", 1}, {"call a", 1}, {"jz r1, a", 1}, {"jnz r1, 3", 1},
		{"nop\nhalt\nret\njr r1\nli r1, a\nldp r1, =a\nlis r1, 2\ntrap 3\nalign 2\npool\na:", 0},
		{"jmp a\njmp a\ncall b\na: jz r1, a\njnz r2, a\nnop\njr r1\nsection data\nword a\nbyte 40\nsection text\njmp 0", 6},
		{"section data\nbyte 40, 41, 42, 43\nalign 32\nspace 40\nequ jmp, 40", 0},
		{strings.Repeat("jmp a\n", api.MaxLines), api.MaxLines},
	} {
		if n := unit.Spans(taken(t, c.src)); n != c.want {
			t.Errorf("%q: %d, not %d", short(c.src), n, c.want)
		}
	}
	if n := unit.Spans(someUnit()); n != 2 {
		t.Error(n)
	}
	// Each operation alone: those with a displacement are the last four.
	for op := 1; op <= opJnz; op++ {
		want := 0
		if op >= opJmp {
			want = 1
		}
		if n := unit.Spans(api.Unit{Text: items(code(op, 0, 0, 0))}); n != want {
			t.Errorf("operation %d: %d, not %d", op, n, want)
		}
	}
}

// R2: what is handed in is not changed and not kept, and answers are new memory.

// spared answers u with room behind the length of each of its lists, filled with what is not right.
func spared(u api.Unit) api.Unit {
	return api.Unit{
		Text:    append(sparedItems(u.Text), label("r1"))[:len(u.Text)],
		Data:    append(sparedItems(u.Data), label("r1"))[:len(u.Data)],
		Equs:    append(sparedEqus(u.Equs), equal("r1", lin(0)))[:len(u.Equs)],
		Globals: append(slices.Clone(u.Globals), "zz")[:len(u.Globals)],
	}
}

func sparedLin(e api.Lin) api.Lin {
	return api.Lin{Terms: append(slices.Clone(e.Terms), term("a", 0))[:len(e.Terms)], Const: e.Const}
}

func sparedItems(l []api.Item) []api.Item {
	l = slices.Clone(l)
	for n := range l {
		l[n].E = sparedLin(l[n].E)
	}
	return l
}

func sparedEqus(l []api.Equ) []api.Equ {
	l = slices.Clone(l)
	for n := range l {
		l[n].E = sparedLin(l[n].E)
	}
	return l
}

func wholeItems(l []api.Item) []api.Item {
	l = slices.Clone(l[:cap(l)])
	for n, x := range l {
		l[n].E.Terms = slices.Clone(x.E.Terms[:cap(x.E.Terms)])
	}
	return l
}

// whole answers a copy of u with all that stands in its lists' room.
func whole(u api.Unit) api.Unit {
	equs := slices.Clone(u.Equs[:cap(u.Equs)])
	for n, q := range equs {
		equs[n].E.Terms = slices.Clone(q.E.Terms[:cap(q.E.Terms)])
	}
	return api.Unit{Text: wholeItems(u.Text), Data: wholeItems(u.Data), Equs: equs, Globals: slices.Clone(u.Globals[:cap(u.Globals)])}
}

// unordered answers right units whose names don't rise, and units that are not right.
func unordered() []api.Unit {
	return []api.Unit{
		{}, someUnit(),
		{Text: items(label("z"), label("y"), codeWith(opJmp, 0, lin(0, term("z", 1)))), Data: items(label("x"), worded(lin(2))), Equs: []api.Equ{equal("w", lin(0)), equal("b", lin(0)), equal("a", lin(0))}, Globals: []string{"a", "z"}},
		{Text: items(label("b"), label("a"), label("b"))},
		{Text: items(label("b"), label("a")), Globals: []string{"b", "a", "b"}},
		{Equs: []api.Equ{equal("b", lin(0, term("b", 1), term("a", 1)))}},
	}
}

func TestWhatIsHandedInStays(t *testing.T) {
	for _, u := range unordered() {
		v := spared(u)
		before := whole(v)
		if unit.Right(v) != unit.Right(u) || !slices.Equal(unit.Names(v), unit.Names(u)) || unit.Spans(v) != unit.Spans(u) {
			t.Errorf("%+v: what lies behind the lengths is read", u)
		}
		if !same(whole(v), before) {
			t.Errorf("%+v has become %+v", before, whole(v))
		}
	}
}

// scribble writes over all lists of u, their spare room too.
func scribble(u api.Unit) {
	for _, l := range [][]api.Item{u.Text, u.Data} {
		for n := range l[:cap(l)] {
			scribbleTerms(l[:cap(l)][n].E.Terms)
			l[:cap(l)][n] = counted(99, 99)
		}
	}
	for n := range u.Equs[:cap(u.Equs)] {
		scribbleTerms(u.Equs[:cap(u.Equs)][n].E.Terms)
		u.Equs[:cap(u.Equs)][n] = equal("?", lin(99))
	}
	for n := range u.Globals[:cap(u.Globals)] {
		u.Globals[:cap(u.Globals)][n] = "?"
	}
}

func scribbleTerms(l []api.Term) {
	l = l[:cap(l)]
	for n := range l {
		l[n] = term("?", 99)
	}
}

func someSources() []string {
	return []string{
		"", "a: jmp a+b", "equ a, b+c\nequ d, b+c", "global a\nglobal b\na:\nb:", "section data\nword a+b, a+b, a+b\nword a+b",
		"a: li r1, a+b\nequ x, a+b\nglobal x\nglobal a\nsection data\nb: word a+b, 3\nc: byte 1, 2",
	}
}

func TestAnswersAreNewMemory(t *testing.T) {
	for _, src := range someSources() {
		first, want := taken(t, src), whole(taken(t, src))
		second := taken(t, src)
		scribble(first)
		if !same(whole(second), want) || !same(whole(taken(t, src)), want) {
			t.Errorf("%q: a unit hangs on one that was answered ahead", src)
		}
	}
	for _, u := range unordered() {
		before, names := whole(u), slices.Clone(unit.Names(u))
		got := unit.Names(u)
		got = got[:cap(got)]
		for n := range got {
			got[n] = "?"
		}
		if !same(whole(u), before) || !slices.Equal(unit.Names(u), names) {
			t.Errorf("%+v: the names that are answered are not new", before)
		}
	}
}

// terms answers all lists of terms of u.
func terms(u api.Unit) []*[]api.Term {
	var l []*[]api.Term
	for _, items := range [][]api.Item{u.Text, u.Data} {
		for n := range items {
			l = append(l, &items[n].E.Terms)
		}
	}
	for n := range u.Equs {
		l = append(l, &u.Equs[n].E.Terms)
	}
	return l
}

func TestListsOfOneAnswerShareNoMemory(t *testing.T) {
	for _, src := range someSources() {
		u := taken(t, src)
		want := taken(t, src)
		for n, l := range terms(u) {
			scribbleTerms(*l)
			for m, other := range terms(u) {
				if m > n && !slices.Equal(*other, *terms(want)[m]) {
					t.Errorf("%q: the terms %d and %d share memory", src, n, m)
				}
			}
		}
		u = taken(t, src)
		_ = append(u.Text, label("?"))
		_ = append(u.Data, label("?"))
		_ = append(u.Equs, equal("?", lin(0)))
		_ = append(u.Globals, "?")
		if !same(u, want) {
			t.Errorf("%q: what is appended to one list is seen in another", src)
		}
	}
}

func TestNothingThatIsHandedInIsKept(t *testing.T) {
	for _, u := range unordered() {
		right, names, spans := unit.Right(u), unit.Names(u), unit.Spans(u)
		want := slices.Clone(names)
		again := whole(u)
		scribble(u)
		if !slices.Equal(names, want) {
			t.Errorf("the names %v have become %v", want, names)
		}
		if unit.Right(again) != right || !slices.Equal(unit.Names(again), want) || unit.Spans(again) != spans {
			t.Errorf("%+v: what is answered hangs on an earlier unit", again)
		}
	}
}

// within tells whether s lies in the memory of text.
func within(s, text string) bool {
	if s == "" || text == "" {
		return false
	}
	at, from := uintptr(unsafe.Pointer(unsafe.StringData(s))), uintptr(unsafe.Pointer(unsafe.StringData(text)))
	return at >= from && at < from+uintptr(len(text))
}

func TestNamesHoldOnToNoText(t *testing.T) {
	for _, src := range someSources() {
		u := taken(t, src)
		var names []string
		for _, x := range append(slices.Clone(u.Text), u.Data...) {
			names = append(names, x.Name)
		}
		for _, q := range u.Equs {
			names = append(names, q.Name)
		}
		for _, l := range terms(u) {
			for _, x := range *l {
				names = append(names, x.Name)
			}
		}
		for _, name := range append(names, u.Globals...) {
			if within(name, src) {
				t.Errorf("%q: the name %q is a piece of the source", src, name)
			}
		}
	}
	text := "abc"
	u := api.Unit{Text: items(label(text[:2])), Equs: []api.Equ{equal(text[1:], lin(0))}}
	for _, name := range unit.Names(u) {
		if within(name, text) {
			t.Errorf("the name %q is a piece of a text that was handed in", name)
		}
	}
}

// R4: nil and empty lists mean the same.
func TestNilAndEmptyLists(t *testing.T) {
	empty := api.Unit{Text: items(), Data: []api.Item{}, Equs: []api.Equ{}, Globals: []string{}}
	judged(t, empty, api.OK)
	if names, spans := unit.Names(empty), unit.Spans(empty); len(names) != 0 || spans != 0 {
		t.Error(names, spans)
	}
	none, some := lin(0), api.Lin{Terms: []api.Term{}}
	for _, e := range []api.Lin{none, some} {
		judged(t, api.Unit{Text: items(codeWith(opJmp, 0, e), codeWith(opNop, 0, e)), Data: items(worded(e)), Equs: []api.Equ{equal("a", e)}}, api.OK)
	}
	u := someUnit()
	u.Globals = []string{}
	judged(t, u, api.OK)
}

// The calls hang on what they are given alone: refused ones change nothing that a later one tells.
func TestCallsDoNotHangOnEachOther(t *testing.T) {
	srcs := append(someSources(), "nope", "a:\na:", "section data\nnop", "global q", "section data\nglobal q", "equ a, 1\nr1:", "a: nop")
	for _, first := range srcs {
		for _, src := range srcs {
			want, wantErr := unit.Assemble(src)
			unit.Assemble(first)
			got, err := unit.Assemble(src)
			if !same(got, want) || (err == nil) != (wantErr == nil) || err != nil && *err.(*unit.Refusal) != *wantErr.(*unit.Refusal) {
				t.Errorf("%q behind %q: %+v, %v; not %+v, %v", src, first, got, err, want, wantErr)
			}
		}
	}
}
