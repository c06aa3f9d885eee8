package item_test

import (
	"math"
	"slices"
	"strconv"
	"strings"
	"testing"
	"unsafe"

	"spandrel/api"
	"spandrel/expr"
	"spandrel/item"
	"spandrel/lex"
	"spandrel/line"
)

// The document's operations in the order of their numbers, each with its arguments: r and z are registers, s is a
// constant of one byte with its sign, u one of one byte without, e is an expression, = one with that sign ahead of it.
const operations = `nop
halt
ret
print r
in r
push r
pop r
jr r
neg r
not r
zturn z
zconj z
mov r r
add r r
sub r r
mul r r
div r r
and r r
or r r
xor r r
shl r r
shr r r
lt r r
eq r r
ldb r r
ldw r r
ldm r r
stm r r
zmov z z
zadd z z
zsub z z
zmul z z
zre r z
zim r z
zset z r r
lis r s
trap u
li r e
ldp r =
jmp e
call e
jz r e
jnz r e`

// The document's directives likewise: a is a constant of align, b one of byte, o one of space, n a name, t a section;
// + says that the last one may stand there again.
const directives = `align a
pool
byte b +
word e +
space o
equ n e
global n
section t`

// The kinds of the items that directives say.
var directiveKinds = map[string]int{"align": api.Align, "pool": api.Pool, "byte": api.Byte, "word": api.Word, "space": api.Space}

// Sections that are neither.
var noSections = []int{-1, 2, 3, 9, math.MinInt, math.MaxInt}

// rule is a row of these tables; op is 0 of a directive.
type rule struct {
	name  string
	op    int
	wants []string
	many  bool
}

func rules() []rule {
	var l []rule
	for n, row := range strings.Split(operations, "\n") {
		words := strings.Fields(row)
		l = append(l, rule{name: words[0], op: n + 1, wants: words[1:]})
	}
	for _, row := range strings.Split(directives, "\n") {
		words := strings.Fields(row)
		wants, many := words[1:], words[len(words)-1] == "+"
		if many {
			wants = wants[:len(wants)-1]
		}
		l = append(l, rule{name: words[0], wants: wants, many: many})
	}
	return l
}

// right answers an argument that is what it must be.
func right(want string) string {
	return map[string]string{"r": "r5", "z": "z2", "s": "-7", "u": "200", "e": "a+1", "=": "=b-2", "a": "16", "b": "-3", "o": "40", "n": "name", "t": "data"}[want]
}

// text answers a line of that operation and those arguments.
func text(name string, args []string) string {
	return name + " " + strings.Join(args, ", ")
}

// rightArgs answers right arguments for each that is wanted.
func rightArgs(r rule) []string {
	var args []string
	for _, want := range r.wants {
		args = append(args, right(want))
	}
	return args
}

func parse(t *testing.T, s string) line.Line {
	t.Helper()
	l, at, why := line.Parse(s)
	if why != api.OK {
		t.Fatalf("Parse(%q): %d, %v", s, at, why)
	}
	return l
}

func name(s string) lex.Token {
	return lex.Token{Kind: lex.Name, Text: s}
}

func number(n uint32) lex.Token {
	return lex.Token{Kind: lex.Number, Text: strconv.FormatUint(uint64(n), 10), N: n}
}

func sign(s string) lex.Token {
	return lex.Token{Kind: lex.Sign, Text: s}
}

func term(name string, coef uint32) api.Term {
	return api.Term{Name: name, Coef: coef}
}

func lin(n uint32, terms ...api.Term) api.Lin {
	return api.Lin{Terms: terms, Const: n}
}

func sameLin(x, y api.Lin) bool {
	return x.Const == y.Const && slices.Equal(x.Terms, y.Terms)
}

func sameItem(x, y api.Item) bool {
	return x.Kind == y.Kind && x.Name == y.Name && x.Inst == y.Inst && x.N == y.N && sameLin(x.E, y.E)
}

func sameThing(x, y item.Thing) bool {
	return x.Kind == y.Kind && x.Name == y.Name && x.Section == y.Section && sameLin(x.E, y.E) && slices.EqualFunc(x.Items, y.Items, sameItem)
}

func code(op, a, b int, n int32) api.Item {
	return api.Item{Kind: api.Code, Inst: api.Inst{Op: op, A: a, B: b, N: n}}
}

func codeWith(op, a int, e api.Lin) api.Item {
	return api.Item{Kind: api.Code, Inst: api.Inst{Op: op, A: a}, E: e}
}

func one(x api.Item) item.Thing {
	return item.Thing{Kind: item.Item, Items: []api.Item{x}}
}

func several(l ...api.Item) item.Thing {
	return item.Thing{Kind: item.Items, Items: l}
}

func counted(kind, n int) api.Item {
	return api.Item{Kind: kind, N: n}
}

func worded(e api.Lin) api.Item {
	return api.Item{Kind: api.Word, E: e}
}

func answers(t *testing.T, l line.Line, section int, want item.Thing) {
	t.Helper()
	if got, why := item.Read(l, section); why != api.OK || !sameThing(got, want) {
		t.Errorf("Read(%+v, %d): %+v, %v; not %+v", l, section, got, why, want)
	}
}

func reads(t *testing.T, s string, section int, want item.Thing) {
	t.Helper()
	answers(t, parse(t, s), section, want)
}

// readsAnywhere: in both sections, and in what is neither.
func readsAnywhere(t *testing.T, s string, want item.Thing) {
	t.Helper()
	reads(t, s, item.Data, want)
	readsInText(t, s, want)
}

// readsInText: in Text, and in what counts as Text.
func readsInText(t *testing.T, s string, want item.Thing) {
	t.Helper()
	for _, section := range append([]int{item.Text}, noSections...) {
		reads(t, s, section, want)
	}
}

func refusesLine(t *testing.T, want api.Errno, section int, l line.Line) {
	t.Helper()
	if got, why := item.Read(l, section); why != want || !sameThing(got, item.Thing{}) {
		t.Errorf("Read(%+v, %d): %+v, %v; not refused with %v", l, section, got, why, want)
	}
}

func refuses(t *testing.T, want api.Errno, section int, texts ...string) {
	t.Helper()
	for _, s := range texts {
		refusesLine(t, want, section, parse(t, s))
	}
}

// refusesAnywhere: in both sections, and in what is neither.
func refusesAnywhere(t *testing.T, want api.Errno, texts ...string) {
	t.Helper()
	refuses(t, want, item.Data, texts...)
	refusesInText(t, want, texts...)
}

// refusesInText: in Text, and in what counts as Text.
func refusesInText(t *testing.T, want api.Errno, texts ...string) {
	t.Helper()
	for _, section := range append([]int{item.Text}, noSections...) {
		refuses(t, want, section, texts...)
	}
}

// within puts s into so many parentheses.
func within(n int, s string) string {
	return strings.Repeat("(", n) + s + strings.Repeat(")", n)
}

// The table 'Runs' and the 'Examples'.

func TestRuns(t *testing.T) {
	reads(t, "add r1, r2", item.Text, one(api.Item{Kind: api.Code, Inst: api.Inst{Op: 14, A: 1, B: 2, N: 0, Form: 0}}))
	refuses(t, api.ErrBad, item.Data, "add r1, r2")
	refuses(t, api.ErrSyntax, item.Text, "add r1", "add r1, z2", "nope")
	refuses(t, api.ErrBad, item.Text, "lis r1, 200", "lis r1, a")
	reads(t, "ldp r1, =a+1", item.Text, one(codeWith(39, 1, lin(1, term("a", 1)))))
	refuses(t, api.ErrBad, item.Data, "byte 1, 300", "align 3")
	refuses(t, api.ErrBad, item.Text, "byte 1, 300", "byte 1", "align 3")
	for _, section := range []int{item.Text, item.Data} {
		reads(t, "equ x, 2*y", section, item.Thing{Kind: item.Equ, Name: "x", E: lin(0, term("y", 2))})
	}
}

func TestExamples(t *testing.T) {
	readsAnywhere(t, "label:", item.Thing{Kind: item.Nothing})
	refuses(t, api.ErrBad, item.Data, "space -1")
	refuses(t, api.ErrBad, item.Text, "space -1")
	reads(t, "section text", item.Data, item.Thing{Kind: item.Section, Section: item.Text})
}

func TestNumbers(t *testing.T) {
	if item.Text != 0 || item.Data != 1 {
		t.Errorf("sections: %d, %d", item.Text, item.Data)
	}
	got := []int{item.Nothing, item.Item, item.Items, item.Equ, item.Global, item.Section}
	if !slices.Equal(got, []int{0, 1, 2, 3, 4, 5}) {
		t.Errorf("kinds: %v", got)
	}
}

// P8.1: lines without an operation, labels

func TestALineOfNothing(t *testing.T) {
	for _, s := range []string{"", " \t\r", "; add r1, r2", "a:", "a: ; b", "r1:"} {
		readsAnywhere(t, s, item.Thing{})
	}
	for _, section := range append([]int{item.Text, item.Data}, noSections...) {
		answers(t, line.Line{}, section, item.Thing{})
		answers(t, line.Line{Label: "?", Args: [][]lex.Token{}}, section, item.Thing{})
	}
}

// The label is not looked at: neither whether it is legal nor whether the line names it.
func TestLabelsAreNotLookedAt(t *testing.T) {
	for _, label := range []string{"a", "r1", "add", "text", "", "?", "1", strings.Repeat("q", 99)} {
		for _, r := range rules() {
			l := parse(t, text(r.name, rightArgs(r)))
			for _, section := range []int{item.Text, item.Data} {
				want, wantWhy := item.Read(l, section)
				l.Label = label
				if got, why := item.Read(l, section); why != wantWhy || !sameThing(got, want) {
					t.Errorf("%s with the label %q in %d: %+v, %v; not %+v, %v", r.name, label, section, got, why, want, wantWhy)
				}
			}
		}
	}
	reads(t, "x: equ x, x", item.Text, item.Thing{Kind: item.Equ, Name: "x", E: lin(0, term("x", 1))})
	refuses(t, api.ErrSyntax, item.Text, "x: x", "x: nope r1")
}

// P8.1: operations

func TestOperationsThatAreNone(t *testing.T) {
	for _, s := range []string{"nope", "ADD", "Add", "addd", "ad", "a", "_", "r1", "z0", "text", "data", "Byte", "bytes", "words", "align2", "pools", "equs", "globals", "sections", "label", "code", "item", "jr2", "lis_"} {
		refusesAnywhere(t, api.ErrSyntax, s, s+" r1", s+" r1, r2", s+" 1", s+" x, 2*y", s+" x")
	}
	for _, op := range []string{" ", "add ", " add", "add\x00", "\x00", "1", "add r1", "nop;", "é"} {
		for _, section := range []int{item.Text, item.Data, 7} {
			refusesLine(t, api.ErrSyntax, section, line.Line{Op: op})
			refusesLine(t, api.ErrSyntax, section, line.Line{Op: op, Args: [][]lex.Token{{name("r1")}, {name("r2")}}})
		}
	}
}

// set lays what an argument of an operation must be read as into an instruction and its expression.
func set(x *api.Item, want string, place int, n int32, e api.Lin) {
	switch {
	case want == "e" || want == "=":
		x.E = e
	case want == "s" || want == "u" || place == 2:
		x.Inst.N = n
	case place == 0:
		x.Inst.A = int(n)
	default:
		x.Inst.B = int(n)
	}
}

// Each operation, with each register of each kind at each place, with the ends of its constant, and with expressions.
func TestEachOperation(t *testing.T) {
	type arg struct {
		text string
		n    int32
		e    api.Lin
	}
	may := map[string][]arg{
		"z": {{"z0", 0, lin(0)}, {"z1", 1, lin(0)}, {"z2", 2, lin(0)}, {"z3", 3, lin(0)}},
		"s": {{"-128", -128, lin(0)}, {"-1", -1, lin(0)}, {"0", 0, lin(0)}, {"127", 127, lin(0)}},
		"u": {{"0", 0, lin(0)}, {"1", 1, lin(0)}, {"255", 255, lin(0)}},
		"e": {{"0", 0, lin(0)}, {"4294967295", 0, lin(1<<32 - 1)}, {"-3", 0, lin(1<<32 - 3)}, {"a", 0, lin(0, term("a", 1))}, {"c-2*(b-1)", 0, lin(2, term("b", 1<<32-2), term("c", 1))}},
	}
	for n := range int32(8) {
		may["r"] = append(may["r"], arg{"r" + strconv.Itoa(int(n)), n, lin(0)})
	}
	for _, x := range may["e"] {
		may["="] = append(may["="], arg{"=" + x.text, 0, x.e}, arg{"= " + x.text, 0, x.e})
	}
	seen := 0
	for _, r := range rules() {
		if r.op == 0 {
			continue
		}
		seen++
		var lay func(x api.Item, args []string)
		lay = func(x api.Item, args []string) {
			place := len(args)
			if place == len(r.wants) {
				readsInText(t, text(r.name, args), one(x))
				refuses(t, api.ErrBad, item.Data, text(r.name, args))
				return
			}
			for _, a := range may[r.wants[place]] {
				y := x
				set(&y, r.wants[place], place, a.n, a.e)
				lay(y, append(args[:place:place], a.text))
			}
		}
		lay(api.Item{Kind: api.Code, Inst: api.Inst{Op: r.op}}, nil)
	}
	if seen != 43 {
		t.Errorf("%d operations", seen)
	}
}

// counts answers lists of so many arguments: right ones where there are some, such as are refused, such as are none.
func counts(r rule, n int) [][]string {
	wanted, syntax, bad := []string{}, []string{}, []string{}
	for place := range n {
		want := "r"
		if len(r.wants) > 0 {
			want = r.wants[min(place, len(r.wants)-1)]
		}
		wanted = append(wanted, right(want))
		syntax = append(syntax, "+")
		bad = append(bad, "a*b")
	}
	return [][]string{wanted, syntax, bad}
}

func TestTooFewAndTooManyArguments(t *testing.T) {
	for _, r := range rules() {
		for n := range 7 {
			if n == len(r.wants) || n > len(r.wants) && r.many {
				continue
			}
			for _, args := range counts(r, n) {
				refusesAnywhere(t, api.ErrSyntax, text(r.name, args))
			}
		}
	}
	refusesAnywhere(t, api.ErrSyntax, "nop r1", "halt 0", "ret r1, r2", "pool 4", "byte", "word", "align", "space", "space 1, 2", "align 4, 4", "equ x", "equ", "equ x, 1, 2", "global", "global a, b", "section", "section text, data", "jmp", "jmp a, b", "trap", "trap 1, 2", "zset z1, r2", "zset z1, r2, r3, r4", "lis r1", "lis 5", "ldp =5", "ldp r1, =5, =6")
}

// No register of the right kind: everywhere where one must be.
func TestRegistersOfTheWrongKind(t *testing.T) {
	none := []string{"r8", "r9", "r10", "z4", "z8", "z00", "R1", "Z1", "r", "z", "a", "_", "add", "text", "0", "1", "'r'", "0x1", "+", "=", "(", "(r1)", "(z1)", "-r1", "-z1", "=r1", "r1+0", "z1+0", "0+r1", "r1 r1", "z1 z1", "r 1", "r1 ()", "a*b", "a b"}
	with := map[string][]string{"r": {"z0", "z1", "z3"}, "z": {"r0", "r1", "r3", "r7"}}
	for _, r := range rules() {
		for place, want := range r.wants {
			if want != "r" && want != "z" {
				continue
			}
			for _, wrong := range append(with[want], none...) {
				args := rightArgs(r)
				args[place] = wrong
				refusesAnywhere(t, api.ErrSyntax, text(r.name, args))
			}
		}
	}
}

// Arguments that no line gives: no tokens, and tokens whose kind does not go with their text.
func TestRegistersThatNoLineGives(t *testing.T) {
	for _, section := range []int{item.Text, item.Data, -1} {
		for _, arg := range [][]lex.Token{nil, {}, {{}}, {sign("r1")}, {{Kind: lex.Number, Text: "r1", N: 1}}, {{Kind: 0, Text: "r1"}}, {{Kind: 4, Text: "r1"}}, {{Kind: -1, Text: "r1"}}, {name("")}, {name("r1 ")}, {name("r1"), name("r1")}, {name("r1"), {}}} {
			refusesLine(t, api.ErrSyntax, section, line.Line{Op: "print", Args: [][]lex.Token{arg}})
			refusesLine(t, api.ErrSyntax, section, line.Line{Op: "add", Args: [][]lex.Token{{name("r1")}, arg}})
			refusesLine(t, api.ErrSyntax, section, line.Line{Op: "zset", Args: [][]lex.Token{{name("z1")}, {name("r1")}, arg}})
		}
		refusesLine(t, api.ErrSyntax, section, line.Line{Op: "add", Args: [][]lex.Token{nil, nil}})
		refusesLine(t, api.ErrSyntax, section, line.Line{Op: "jmp", Args: [][]lex.Token{nil}})
		refusesLine(t, api.ErrSyntax, section, line.Line{Op: "trap", Args: [][]lex.Token{{}}})
		refusesLine(t, api.ErrSyntax, section, line.Line{Op: "ldp", Args: [][]lex.Token{{name("r1")}, {}}})
		for _, first := range []lex.Token{name("="), {Kind: lex.Number, Text: "="}, {Text: "="}, sign(""), sign("=="), sign("+")} {
			refusesLine(t, api.ErrSyntax, section, line.Line{Op: "ldp", Args: [][]lex.Token{{name("r1")}, {first, number(5)}}})
		}
	}
	answers(t, line.Line{Op: "ldp", Args: [][]lex.Token{{name("r1")}, {sign("="), number(5)}}}, item.Text, one(codeWith(39, 1, lin(5))))
	answers(t, line.Line{Op: "nop", Args: [][]lex.Token{}}, item.Text, one(code(1, 0, 0, 0)))
}

// P8.1: constants

// texts answers expressions without terms that are n, modulo 2^32.
func texts(n int64) []string {
	u := uint32(n)
	l := []string{strconv.FormatUint(uint64(u), 10), "0x" + strconv.FormatUint(uint64(u), 16), "-" + strconv.FormatUint(uint64(-u), 10), "a-a+" + strconv.FormatUint(uint64(u), 10), "(0*a+" + strconv.FormatUint(uint64(u), 10) + ")*1", "2*" + strconv.FormatUint(uint64(u), 10) + "-" + strconv.FormatUint(uint64(u), 10)}
	if n >= ' ' && n <= '~' && n != '\'' {
		l = append(l, "'"+string(rune(n))+"'")
	}
	return l
}

// edges answers numbers on both sides of the ends that constants have, and of those of 32 bits.
func edges() []int64 {
	var l []int64
	for n := int64(-600); n <= 600; n++ {
		l = append(l, n)
	}
	for bit := 10; bit < 32; bit++ {
		for d := int64(-2); d <= 2; d++ {
			l = append(l, 1<<bit+d, -1<<bit+d)
		}
	}
	// From 2^31 on they are below 0, as those below -2^31 are above it.
	return append(l, 1<<32-1, 1<<32-128, 1<<32-129, 1<<32-256, 1<<31+255, -1<<31-1, -1<<32+1, -1<<32+255, -1<<32+256, 3<<30)
}

// constants reads each of the edges as the argument behind head: one that may be as what want answers, the others ErrBad.
func constants(t *testing.T, head string, section int, may func(n int64) bool, want func(n int) item.Thing) {
	t.Helper()
	for _, n := range edges() {
		signed := int64(int32(uint32(n)))
		for _, s := range texts(n) {
			if may(signed) {
				reads(t, head+s, section, want(int(signed)))
			} else {
				refuses(t, api.ErrBad, section, head+s)
			}
		}
	}
}

func between(least, most int64) func(int64) bool {
	return func(n int64) bool { return least <= n && n <= most }
}

func TestConstantsOfLis(t *testing.T) {
	constants(t, "lis r6, ", item.Text, between(-128, 127), func(n int) item.Thing { return one(code(36, 6, 0, int32(n))) })
	constants(t, "lis r6, ", item.Data, between(1, 0), nil)
}

func TestConstantsOfTrap(t *testing.T) {
	constants(t, "trap ", item.Text, between(0, 255), func(n int) item.Thing { return one(code(37, 0, 0, int32(n))) })
	constants(t, "trap ", item.Data, between(1, 0), nil)
}

func TestConstantsOfAlign(t *testing.T) {
	may := func(n int64) bool {
		return slices.Contains([]int64{1, 2, 4, 8, 16, 32, 64, 128, 256}, n)
	}
	for _, section := range append([]int{item.Text, item.Data}, noSections...) {
		constants(t, "align ", section, may, func(n int) item.Thing { return one(counted(api.Align, n)) })
	}
}

func TestConstantsOfByte(t *testing.T) {
	constants(t, "byte ", item.Data, between(-128, 255), func(n int) item.Thing { return several(counted(api.Byte, n)) })
	constants(t, "byte 7, ", item.Data, between(-128, 255), func(n int) item.Thing {
		return several(counted(api.Byte, 7), counted(api.Byte, n))
	})
	constants(t, "byte ", item.Text, between(1, 0), nil)
}

func TestConstantsOfSpace(t *testing.T) {
	constants(t, "space ", item.Data, between(0, 1<<20), func(n int) item.Thing { return one(counted(api.Space, n)) })
	constants(t, "space ", item.Text, between(1, 0), nil)
	for n := range 40 {
		s := strconv.Itoa(api.MaxImage - 20 + n)
		if n <= 20 {
			reads(t, "space "+s, item.Data, one(counted(api.Space, api.MaxImage-20+n)))
		} else {
			refuses(t, api.ErrBad, item.Data, "space "+s)
		}
	}
}

// heads are the beginnings of lines whose last argument is a constant, each with a section in which it may stand.
var heads = []struct {
	text    string
	section int
}{{"lis r1, ", item.Text}, {"trap ", item.Text}, {"align ", item.Text}, {"align ", item.Data}, {"byte ", item.Data}, {"byte 1, ", item.Data}, {"byte 1, 2, ", item.Data}, {"space ", item.Data}}

func TestConstantsWithTerms(t *testing.T) {
	for _, h := range heads {
		for _, s := range []string{"a", "-a", "a+1", "1+a", "2*a-a", "(a)", "a-b", "a+1-1", "text", "r8"} {
			refuses(t, api.ErrBad, h.section, h.text+s)
			refuses(t, api.ErrBad, 1-h.section, h.text+s)
		}
		// A term whose coefficient is 0 is none.
		for _, s := range []string{"a-a+1", "0*a+1", "1+2147483648*a*2", "(a-a)*b+1"} {
			if _, why := item.Read(parse(t, h.text+s), h.section); why != api.OK {
				t.Errorf("%s%s: %v", h.text, s, why)
			}
		}
	}
}

// expressionHeads are the beginnings of lines whose last argument is an expression or a constant.
func expressionHeads() []string {
	l := []string{"li r1, ", "ldp r1, =", "jmp ", "call ", "jz r1, ", "jnz r1, ", "word ", "word 1, ", "word a, b, ", "equ x, "}
	for _, h := range heads {
		l = append(l, h.text)
	}
	return l
}

func TestExpressionsThatAreRefused(t *testing.T) {
	for _, head := range expressionHeads() {
		refusesAnywhere(t, api.ErrSyntax, head+"+", head+"-", head+"*", head+"()", head+"(", head+")", head+"(1", head+"1)", head+"1+", head+"1*", head+"*1", head+"+1", head+"1 1", head+"a b", head+"a 1", head+"r1", head+"z3", head+"1+r7", head+"0*z0", head+"=1", head+"= 1", head+"1=", head+"1 = 2", head+"- - -")
		refusesAnywhere(t, api.ErrBad, head+"a*b", head+"a*a", head+"(a+1)*(b+1)", head+"2*a*b", head+within(33, "1"), head+"1+"+within(33, "1"))
		// The first that a reading from the left meets.
		refusesAnywhere(t, api.ErrBad, head+"a*b)", head+"a*b r1", head+"a*b+", head+within(33, "r1"))
		refusesAnywhere(t, api.ErrSyntax, head+") a*b", head+"r1*a*b", head+"1 a*b", head+"r1+"+within(33, "1"))
	}
}

func TestParenthesesWithinOneAnother(t *testing.T) {
	reads(t, "lis r1, "+within(32, "5"), item.Text, one(code(36, 1, 0, 5)))
	reads(t, "jmp "+within(32, "a"), item.Text, one(codeWith(40, 0, lin(0, term("a", 1)))))
	reads(t, "ldp r1, ="+within(32, "a"), item.Text, one(codeWith(39, 1, lin(0, term("a", 1)))))
	reads(t, "byte "+within(32, "5"), item.Data, several(counted(api.Byte, 5)))
	reads(t, "space "+within(32, "5"), item.Data, one(counted(api.Space, 5)))
	reads(t, "equ x, "+within(32, "5"), item.Data, item.Thing{Kind: item.Equ, Name: "x", E: lin(5)})
}

// A literal has just one = ahead of its expression, and no other argument has one.
func TestLiterals(t *testing.T) {
	reads(t, "ldp r0, =5", item.Text, one(codeWith(39, 0, lin(5))))
	reads(t, "ldp r7, = 2*(a - 3) + b - a", item.Text, one(codeWith(39, 7, lin(4294967290, term("a", 1), term("b", 1)))))
	reads(t, "ldp r7, =-1", item.Text, one(codeWith(39, 7, lin(4294967295))))
	reads(t, "ldp r7, =a-a", item.Text, one(codeWith(39, 7, lin(0))))
	refusesAnywhere(t, api.ErrSyntax, "ldp r1, 5", "ldp r1, a", "ldp r1, a*b", "ldp r1, =", "ldp r1, ==5", "ldp r1, = =5", "ldp r1, 5=", "ldp r1, (=5)", "ldp r1, -=5", "ldp r1, =r1", "ldp r1, r1", "ldp =r1, =5")
	refusesAnywhere(t, api.ErrSyntax, "li r1, =5", "jmp =a", "call =a", "jz r1, =a", "jnz r1, =a", "lis r1, =5", "trap =5", "align =4", "byte =4", "word =4", "space =4", "equ x, =4", "print =r1", "global =a", "section =text")
	refuses(t, api.ErrBad, item.Text, "ldp r1, =a*b")
}

// P8.1: directives

func TestPool(t *testing.T) {
	readsInText(t, "pool", one(api.Item{Kind: api.Pool}))
	readsInText(t, "a: pool ; here", one(api.Item{Kind: api.Pool}))
	refuses(t, api.ErrBad, item.Data, "pool", "a: pool")
}

func TestByte(t *testing.T) {
	reads(t, "byte 0", item.Data, several(counted(api.Byte, 0)))
	reads(t, "byte 1, -1, 255, -128, 'a', 0x10, 3-131", item.Data, several(counted(api.Byte, 1), counted(api.Byte, -1), counted(api.Byte, 255), counted(api.Byte, -128), counted(api.Byte, 97), counted(api.Byte, 16), counted(api.Byte, -128)))
	refusesInText(t, api.ErrBad, "byte 0", "byte 1, 2, 3")
	refuses(t, api.ErrBad, item.Data, "byte 1, 300", "byte 300, 1", "byte 1, 2, 256", "byte -129, 1", "byte 1, a")
}

func TestWord(t *testing.T) {
	reads(t, "word 0", item.Data, several(worded(lin(0))))
	reads(t, "word y, 3", item.Data, several(worded(lin(0, term("y", 1))), worded(lin(3))))
	reads(t, "word 4294967295, -1, b-a, a-a, y, y", item.Data, several(worded(lin(1<<32-1)), worded(lin(1<<32-1)), worded(lin(0, term("a", 1<<32-1), term("b", 1))), worded(lin(0)), worded(lin(0, term("y", 1))), worded(lin(0, term("y", 1)))))
	refusesInText(t, api.ErrBad, "word 0", "word a, b, c")
	refuses(t, api.ErrBad, item.Data, "word 1, a*b", "word a*b, 1")
	refuses(t, api.ErrSyntax, item.Data, "word 1, r1", "word r1, 1", "word 1, 2 3")
}

func TestManyArguments(t *testing.T) {
	const many = 5000
	numbers, words := make([]string, many), make([]string, many)
	var wantBytes, wantWords []api.Item
	for i := range many {
		numbers[i] = strconv.Itoa(i % 256)
		wantBytes = append(wantBytes, counted(api.Byte, i%256))
		words[i] = "a+" + strconv.Itoa(i)
		wantWords = append(wantWords, worded(lin(uint32(i), term("a", 1))))
	}
	reads(t, text("byte", numbers), item.Data, several(wantBytes...))
	reads(t, text("word", words), item.Data, several(wantWords...))
	refuses(t, api.ErrBad, item.Data, text("byte", numbers)+", 256")
	refuses(t, api.ErrSyntax, item.Data, text("byte", numbers)+", r1", text("word", words)+", r1", "word r1, "+strings.Join(words, ", "))
}

func TestEqu(t *testing.T) {
	readsAnywhere(t, "equ x, 0", item.Thing{Kind: item.Equ, Name: "x"})
	readsAnywhere(t, "equ x, 2*y", item.Thing{Kind: item.Equ, Name: "x", E: lin(0, term("y", 2))})
	readsAnywhere(t, "equ x, x", item.Thing{Kind: item.Equ, Name: "x", E: lin(0, term("x", 1))})
	readsAnywhere(t, "equ x, b-a-1", item.Thing{Kind: item.Equ, Name: "x", E: lin(1<<32-1, term("a", 1<<32-1), term("b", 1))})
	for _, s := range legal {
		readsAnywhere(t, "equ "+s+", 7", item.Thing{Kind: item.Equ, Name: s, E: lin(7)})
	}
	refusesAnywhere(t, api.ErrBad, "equ x, a*b", "equ x, x*x")
	refusesAnywhere(t, api.ErrSyntax, "equ 1, x", "equ x, r1", "equ x, y z", "equ x, +")
}

func TestGlobal(t *testing.T) {
	for _, s := range legal {
		readsAnywhere(t, "global "+s, item.Thing{Kind: item.Global, Name: s})
	}
}

// Names that are legal, those of operations, of directives and of sections too.
var legal = []string{"a", "Z", "_", "r8", "z4", "r", "z", "r00", "R1", "add", "equ", "global", "text", "data", "a1_", strings.Repeat("q", api.MaxName)}

func TestNamesThatAreNone(t *testing.T) {
	for _, s := range []string{"r0", "r7", "z0", "z3", "1", "0x1", "'a'", "+", "(", "=", "(a)", "-a", "=a", "a+b", "a b", "a a", "a+0", "a*b", "a r1"} {
		refusesAnywhere(t, api.ErrSyntax, "global "+s, "equ "+s+", 1", "equ "+s+", a*b", "equ "+s+", +")
	}
	for _, arg := range [][]lex.Token{nil, {}, {{}}, {name("")}, {name("1")}, {name("a b")}, {name(" a")}, {name("a;")}, {name("r1")}, {name(strings.Repeat("q", api.MaxName+1))}, {sign("a")}, {{Kind: lex.Number, Text: "a"}}, {{Kind: 4, Text: "a"}}, {{Text: "a"}}, {name("a"), name("a")}, {name("a"), {}}} {
		for _, section := range []int{item.Text, item.Data, 2} {
			refusesLine(t, api.ErrSyntax, section, line.Line{Op: "global", Args: [][]lex.Token{arg}})
			refusesLine(t, api.ErrSyntax, section, line.Line{Op: "equ", Args: [][]lex.Token{arg, {number(1)}}})
			refusesLine(t, api.ErrSyntax, section, line.Line{Op: "equ", Args: [][]lex.Token{arg, {name("a"), sign("*"), name("b")}}})
		}
	}
	refusesLine(t, api.ErrSyntax, item.Text, line.Line{Op: "equ", Args: [][]lex.Token{{name("a")}, {}}})
}

func TestSection(t *testing.T) {
	readsAnywhere(t, "section text", item.Thing{Kind: item.Section, Section: item.Text})
	readsAnywhere(t, "section data", item.Thing{Kind: item.Section, Section: item.Data})
	readsAnywhere(t, "x: section data ; now", item.Thing{Kind: item.Section, Section: item.Data})
	refusesAnywhere(t, api.ErrSyntax, "section code", "section Text", "section DATA", "section texts", "section dat", "section a", "section r1", "section 0", "section 1", "section (text)", "section -data", "section text data", "section text+0", "section a*b", "section +")
	for _, arg := range [][]lex.Token{nil, {}, {{}}, {name("")}, {sign("text")}, {{Kind: lex.Number, Text: "data", N: 1}}, {{Text: "text"}}, {{Kind: 4, Text: "text"}}, {name("text"), {}}} {
		for _, section := range []int{item.Text, item.Data, 2} {
			refusesLine(t, api.ErrSyntax, section, line.Line{Op: "section", Args: [][]lex.Token{arg}})
		}
	}
}

// P8.1: the order of two refusals

func TestOperationsAndCountsAheadOfArguments(t *testing.T) {
	refusesAnywhere(t, api.ErrSyntax, "nope a*b", "lis r1, 300, 5", "lis 300", "trap 256, 1", "byte", "space -1, -1", "align 3, 3", "li r1, a*b, 1", "jmp a*b, a*b", "equ x, a*b, 1", "add r1, r2, a*b", "pool a*b", "nop a*b")
}

func TestArgumentsFromTheLeft(t *testing.T) {
	// The first argument is ErrSyntax, the second ErrBad; then the other way round.
	refusesAnywhere(t, api.ErrSyntax, "lis z1, 300", "lis 1, a", "li z1, a*b", "ldp z1, =a*b", "jz z1, a*b", "jnz a*b, a*b", "equ r1, a*b", "byte a b, 300", "byte r1, 300", "word r1, a*b", "byte 1, r1, 300", "word 1, +, a*b")
	refusesAnywhere(t, api.ErrBad, "byte 300, a b", "byte a, r1", "word a*b, r1", "byte 1, 300, r1", "word 1, a*b, +", "byte "+within(33, "1")+", r1")
	// Of one argument: what it must be, ahead of its number.
	refusesAnywhere(t, api.ErrSyntax, "lis r1, 300 300", "trap 300 1", "align 3 3", "byte 300 1", "space -1 1", "lis r1, a r1", "ldp r1, a*b")
}

func TestArgumentsAheadOfTheSection(t *testing.T) {
	refuses(t, api.ErrSyntax, item.Data, "add r1", "add r1, z2", "lis z1, 5", "jmp r1", "jmp a b", "ldp r1, 5", "trap +", "pool 1", "nop 1")
	refuses(t, api.ErrSyntax, item.Text, "byte r1", "byte 1, r1", "word +", "space r1", "space", "byte", "word")
	// ErrBad either way.
	refuses(t, api.ErrBad, item.Data, "lis r1, 300", "jmp a*b", "trap 256")
	refuses(t, api.ErrBad, item.Text, "byte 300", "word a*b", "space -1")
}

// P8.1: a model of the chapter, over all short lines

// arg is an argument of the model: its text, which register it is, and what it is as an expression.
type arg struct {
	text       string
	isR, isZ   bool
	isName     bool
	n          int32
	e          api.Lin
	why        api.Errno
	literal    bool
	literalWhy api.Errno
}

func vocabulary() []arg {
	none := api.ErrSyntax
	return []arg{
		{text: "r0", isR: true, n: 0, why: none},
		{text: "r7", isR: true, n: 7, why: none},
		{text: "z3", isZ: true, n: 3, why: none},
		{text: "a", isName: true, e: lin(0, term("a", 1))},
		{text: "text", isName: true, e: lin(0, term("text", 1))},
		{text: "data", isName: true, e: lin(0, term("data", 1))},
		{text: "64", e: lin(64)},
		{text: "-128", e: lin(1<<32 - 128)},
		{text: "255", e: lin(255)},
		{text: "0x100", e: lin(256)},
		{text: "2*a-1", e: lin(1<<32-1, term("a", 2))},
		{text: "a*b", why: api.ErrBad},
		{text: "a b", why: none},
		{text: "=a+1", why: none, literal: true, e: lin(1, term("a", 1))},
		{text: "=a*b", why: none, literal: true, literalWhy: api.ErrBad},
		{text: "=", why: none, literal: true, literalWhy: none},
	}
}

// judge answers why a is not what it must be, or OK.
func judge(want string, a arg) api.Errno {
	ok := func(b bool) api.Errno {
		if b {
			return api.OK
		}
		return api.ErrSyntax
	}
	constant := func(may func(int32) bool) api.Errno {
		if a.why == api.OK && (len(a.e.Terms) > 0 || !may(int32(a.e.Const))) {
			return api.ErrBad
		}
		return a.why
	}
	switch want {
	case "r":
		return ok(a.isR)
	case "z":
		return ok(a.isZ)
	case "n":
		return ok(a.isName)
	case "t":
		return ok(a.text == "text" || a.text == "data")
	case "e":
		return a.why
	case "=":
		if a.literal {
			return a.literalWhy
		}
		return api.ErrSyntax
	case "s":
		return constant(func(n int32) bool { return -128 <= n && n <= 127 })
	case "u":
		return constant(func(n int32) bool { return 0 <= n && n <= 255 })
	case "a":
		return constant(func(n int32) bool { return slices.Contains([]int32{1, 2, 4, 8, 16, 32, 64, 128, 256}, n) })
	case "b":
		return constant(func(n int32) bool { return -128 <= n && n <= 255 })
	}
	return constant(func(n int32) bool { return 0 <= n && n <= 1<<20 })
}

// model is the document's P8.1, said once more.
func model(r rule, args []arg, section int) (item.Thing, api.Errno) {
	if len(args) != len(r.wants) && !(r.many && len(args) > len(r.wants)) {
		return item.Thing{}, api.ErrSyntax
	}
	for place, a := range args {
		if why := judge(r.wants[min(place, len(r.wants)-1)], a); why != api.OK {
			return item.Thing{}, why
		}
	}
	inData := section == item.Data
	switch r.name {
	case "equ":
		return item.Thing{Kind: item.Equ, Name: args[0].text, E: args[1].e}, api.OK
	case "global":
		return item.Thing{Kind: item.Global, Name: args[0].text}, api.OK
	case "section":
		x := item.Thing{Kind: item.Section}
		if args[0].text == "data" {
			x.Section = item.Data
		}
		return x, api.OK
	case "byte", "word", "space":
		if !inData {
			return item.Thing{}, api.ErrBad
		}
	case "align":
	default:
		if inData {
			return item.Thing{}, api.ErrBad
		}
	}
	return modelItems(r, args), api.OK
}

// modelItems answers the thing of a rule that says items, of right arguments.
func modelItems(r rule, args []arg) item.Thing {
	kind := directiveKinds[r.name]
	switch r.name {
	case "pool":
		return one(api.Item{Kind: kind})
	case "align", "space":
		return one(counted(kind, int(int32(args[0].e.Const))))
	case "byte", "word":
		x := item.Thing{Kind: item.Items}
		for _, a := range args {
			if r.name == "byte" {
				x.Items = append(x.Items, counted(kind, int(int32(a.e.Const))))
			} else {
				x.Items = append(x.Items, worded(a.e))
			}
		}
		return x
	}
	x := api.Item{Kind: api.Code, Inst: api.Inst{Op: r.op}}
	for place, a := range args {
		n := a.n
		if !a.isR && !a.isZ {
			n = int32(a.e.Const)
		}
		set(&x, r.wants[place], place, n, a.e)
	}
	return one(x)
}

func TestAllShortLines(t *testing.T) {
	words := vocabulary()
	parsed := make([][]lex.Token, len(words))
	for i, w := range words {
		parsed[i] = parse(t, "op "+w.text).Args[0]
	}
	for _, r := range rules() {
		var lay func(args []arg, l line.Line)
		lay = func(args []arg, l line.Line) {
			for _, section := range []int{item.Text, item.Data, 2} {
				want, wantWhy := model(r, args, section)
				got, why := item.Read(l, section)
				if why != wantWhy || !sameThing(got, want) {
					t.Fatalf("Read(%+v, %d): %+v, %v; not %+v, %v", l, section, got, why, want, wantWhy)
				}
				// What is answered is right where it may stand.
				for _, x := range got.Items {
					if section != 2 && item.Right(x, section) != api.OK {
						t.Fatalf("%+v in %d is answered, and is not right", x, section)
					}
				}
			}
			if len(args) == 3 {
				return
			}
			for i, w := range words {
				lay(append(args[:len(args):len(args)], w), line.Line{Op: l.Op, Args: append(l.Args[:len(l.Args):len(l.Args)], parsed[i])})
			}
		}
		lay(nil, line.Line{Op: r.name})
	}
}

// P8.2

func judges(t *testing.T, want api.Errno, section int, l ...api.Item) {
	t.Helper()
	for _, x := range l {
		if why := item.Right(x, section); why != want {
			t.Errorf("Right(%+v, %d): %v, not %v", x, section, why, want)
		}
	}
}

// rightItems answers items that are right in a section, each operation and each directive among them.
func rightItems(section int) []api.Item {
	l := []api.Item{{Kind: api.Label, Name: "a"}, {Kind: api.Label, Name: strings.Repeat("q", 32)}, counted(api.Align, 1), counted(api.Align, 16), counted(api.Align, 256)}
	if section == item.Data {
		return append(l, counted(api.Byte, 0), counted(api.Byte, -128), counted(api.Byte, 255), counted(api.Space, 0), counted(api.Space, 1), counted(api.Space, api.MaxImage), worded(lin(0)), worded(lin(1<<32-1)), worded(lin(3, term("a", 1), term("b", 2))))
	}
	l = append(l, api.Item{Kind: api.Pool})
	for _, r := range rules() {
		for _, last := range []bool{false, true} {
			if r.op == 0 {
				continue
			}
			x := api.Item{Kind: api.Code, Inst: api.Inst{Op: r.op}}
			for place, want := range r.wants {
				if last {
					set(&x, want, place, map[string]int32{"r": 7, "z": 3, "s": 127, "u": 255}[want], lin(9, term("a", 4), term("b", 5)))
				}
			}
			l = append(l, x)
		}
	}
	return l
}

func TestRightItems(t *testing.T) {
	for _, section := range []int{item.Text, item.Data} {
		judges(t, api.OK, section, rightItems(section)...)
	}
}

// Of items that are right in the one section: those of the other one are Labels and Aligns alone.
func TestRightItemsOfTheOtherSection(t *testing.T) {
	for _, section := range []int{item.Text, item.Data} {
		for _, x := range rightItems(section) {
			want := api.ErrUnit
			if x.Kind == api.Label || x.Kind == api.Align {
				want = api.OK
			}
			judges(t, want, 1-section, x)
		}
	}
}

func TestSectionsThatAreNeither(t *testing.T) {
	for _, section := range noSections {
		judges(t, api.ErrArg, section, append(rightItems(item.Text), rightItems(item.Data)...)...)
		// ErrArg stands ahead of ErrUnit.
		judges(t, api.ErrArg, section, api.Item{}, api.Item{Kind: 99}, api.Item{Kind: api.Label, Name: "r1"}, counted(api.Byte, 999))
	}
}

func TestKindsThatAreNone(t *testing.T) {
	for _, kind := range []int{0, -1, 8, 9, 255, 256, 257, math.MinInt, math.MaxInt} {
		for _, section := range []int{item.Text, item.Data} {
			judges(t, api.ErrUnit, section, api.Item{Kind: kind}, api.Item{Kind: kind, Name: "a"}, counted(kind, 1), api.Item{Kind: kind, Inst: api.Inst{Op: 1}}, api.Item{Kind: kind, E: lin(1)})
		}
	}
}

func TestLabels(t *testing.T) {
	for _, section := range []int{item.Text, item.Data} {
		for _, s := range legal {
			judges(t, api.OK, section, api.Item{Kind: api.Label, Name: s})
		}
		for _, s := range []string{"", "r0", "r7", "z0", "z3", "1", "1a", "a b", " a", "a ", "a;", "a:", "a-b", "é", "\x00", "a\n", strings.Repeat("q", 33)} {
			judges(t, api.ErrUnit, section, api.Item{Kind: api.Label, Name: s})
		}
	}
}

func TestNumbersOfItems(t *testing.T) {
	for _, section := range []int{item.Text, item.Data} {
		for _, edge := range append(edges(), math.MinInt64, math.MaxInt64, 1<<32+4, -1<<32, 1<<40) {
			n := int(edge)
			want := func(may bool) api.Errno {
				if may {
					return api.OK
				}
				return api.ErrUnit
			}
			judges(t, want(slices.Contains([]int{1, 2, 4, 8, 16, 32, 64, 128, 256}, n)), section, counted(api.Align, n))
			judges(t, want(section == item.Data && n >= -128 && n <= 255), section, counted(api.Byte, n))
			judges(t, want(section == item.Data && n >= 0 && n <= 1<<20), section, counted(api.Space, n))
			judges(t, want(section == item.Data && n == 0), section, counted(api.Word, n))
			judges(t, want(section == item.Text && n == 0), section, counted(api.Pool, n))
			judges(t, want(n == 0), section, api.Item{Kind: api.Label, Name: "a", N: n})
			judges(t, want(section == item.Text && n == 0), section, api.Item{Kind: api.Code, Inst: api.Inst{Op: 40}, N: n})
		}
	}
}

// Each field that an item's kind does not name must be zero.
func TestFieldsThatTheKindDoesNotName(t *testing.T) {
	for _, section := range []int{item.Text, item.Data} {
		for _, x := range rightItems(section) {
			wrong := func(change func(y *api.Item)) {
				t.Helper()
				y := x
				change(&y)
				judges(t, api.ErrUnit, section, y)
			}
			if x.Kind != api.Label {
				wrong(func(y *api.Item) { y.Name = "a" })
				wrong(func(y *api.Item) { y.Name = "?" })
			}
			if x.Kind != api.Code {
				wrong(func(y *api.Item) { y.Inst.Op = 1 })
				wrong(func(y *api.Item) { y.Inst.A = 1 })
				wrong(func(y *api.Item) { y.Inst.B = 1 })
				wrong(func(y *api.Item) { y.Inst.N = 1 })
				wrong(func(y *api.Item) { y.Inst.Form = 1 })
			}
			if x.Kind != api.Align && x.Kind != api.Byte && x.Kind != api.Space {
				wrong(func(y *api.Item) { y.N = 1 })
				wrong(func(y *api.Item) { y.N = -1 })
			}
			if !hasE(x) {
				wrong(func(y *api.Item) { y.E = lin(1) })
				wrong(func(y *api.Item) { y.E = lin(0, term("a", 1)) })
				wrong(func(y *api.Item) { y.E = lin(0, api.Term{}) })
			}
		}
	}
}

// hasE: by the document's table.
func hasE(x api.Item) bool {
	if x.Kind != api.Code {
		return x.Kind == api.Word
	}
	l := rules()
	if x.Inst.Op < 1 || x.Inst.Op > 43 {
		return false
	}
	wants := l[x.Inst.Op-1].wants
	return len(wants) > 0 && strings.Contains("e=", wants[len(wants)-1])
}

func TestExpressionsOfItems(t *testing.T) {
	rights := []api.Lin{lin(0), lin(1), lin(1<<32 - 1), {Terms: []api.Term{}}, lin(0, term("a", 1)), lin(7, term("Z", 1<<32-1), term("_", 2), term("a", 3), term("aa", 4), term("r8", 5))}
	wrongs := []api.Lin{lin(0, term("a", 0)), lin(0, term("", 1)), lin(0, term("r1", 1)), lin(0, term("z3", 1)), lin(0, term("1", 1)), lin(0, term("a b", 1)), lin(0, term(strings.Repeat("q", 33), 1)), lin(0, term("a", 1), term("a", 1)), lin(0, term("b", 1), term("a", 1)), lin(0, term("a", 1), term("b", 0)), lin(1, term("a", 1), term("c", 1), term("b", 1))}
	for _, section := range []int{item.Text, item.Data} {
		for _, x := range rightItems(section) {
			if !hasE(x) {
				continue
			}
			for _, e := range rights {
				x.E = e
				judges(t, api.OK, section, x)
			}
			for _, e := range wrongs {
				x.E = e
				judges(t, api.ErrUnit, section, x)
			}
		}
	}
}

// written answers a line that says x, or false, if x has what no line says: an operation or a register that is none.
// What a line says nothing of (fields that x's kind does not name) is not looked at: the line is to be read back.
func written(l []rule, x api.Item) (string, bool) {
	e := expr.Text(x.E)
	switch x.Kind {
	case api.Align, api.Byte, api.Space:
		return map[int]string{api.Align: "align ", api.Byte: "byte ", api.Space: "space "}[x.Kind] + strconv.FormatUint(uint64(uint32(x.N)), 10), true
	case api.Pool:
		return "pool", true
	case api.Word:
		return "word " + e, true
	}
	if x.Kind != api.Code || x.Inst.Op < 1 || x.Inst.Op > 43 {
		return "", false
	}
	r := l[x.Inst.Op-1]
	var args []string
	for place, want := range r.wants {
		n := []int{x.Inst.A, x.Inst.B, int(x.Inst.N)}[place]
		switch want {
		case "e":
			args = append(args, e)
		case "=":
			args = append(args, "="+e)
		case "s", "u":
			args = append(args, strconv.FormatUint(uint64(uint32(x.Inst.N)), 10))
		default:
			if n < 0 {
				return "", false
			}
			args = append(args, want+strconv.Itoa(n))
		}
	}
	return text(r.name, args), true
}

// An item is right just if the line that says it is read as it.
func couldBeRead(t *testing.T, l []rule, x api.Item, section int) bool {
	t.Helper()
	s, ok := written(l, x)
	if !ok || !expr.Right(x.E) {
		return false
	}
	got, why := item.Read(parse(t, s), section)
	return why == api.OK && len(got.Items) == 1 && sameItem(got.Items[0], x)
}

func holds(t *testing.T, l []rule, x api.Item) {
	t.Helper()
	for _, section := range []int{item.Text, item.Data} {
		want := api.ErrUnit
		if couldBeRead(t, l, x, section) {
			want = api.OK
		}
		if why := item.Right(x, section); why != want {
			t.Fatalf("Right(%+v, %d): %v, not %v", x, section, why, want)
		}
	}
}

func TestRightIsWhatReadCouldAnswer(t *testing.T) {
	l := rules()
	lins := []api.Lin{lin(0), lin(1), lin(5, term("a", 2)), lin(0, term("a", 0))}
	for op := -1; op <= 45; op++ {
		for _, a := range []int{-1, 0, 1, 3, 4, 7, 8, 256} {
			for _, b := range []int{-1, 0, 3, 4, 7, 8} {
				for _, n := range []int32{-129, -128, -1, 0, 7, 8, 127, 128, 255, 256} {
					i := api.Inst{Op: op, A: a, B: b, N: n}
					for _, e := range lins {
						holds(t, l, api.Item{Kind: api.Code, Inst: i, E: e})
					}
				}
				for _, form := range []int{-1, 0, 1, 2, 3, 4} {
					holds(t, l, api.Item{Kind: api.Code, Inst: api.Inst{Op: op, A: a, B: b, Form: form}})
				}
			}
		}
	}
	for _, kind := range []int{0, api.Code, api.Align, api.Pool, api.Byte, api.Word, api.Space, 8} {
		for n := -300; n <= 600; n++ {
			for _, e := range lins {
				for _, i := range []api.Inst{{}, {Op: 1}, {Op: 40}, {A: 1}, {Form: 1}} {
					holds(t, l, api.Item{Kind: kind, Inst: i, E: e, N: n})
				}
			}
			holds(t, l, api.Item{Kind: kind, Name: "a", N: n})
		}
	}
}

// R2 and R4

// spared answers the line with room behind the length of each of its lists, and what lies there.
func spared(l line.Line) line.Line {
	args := make([][]lex.Token, 0, len(l.Args)+3)
	for _, arg := range l.Args {
		tokens := append(make([]lex.Token, 0, len(arg)+3), arg...)
		copy(tokens[len(arg):cap(tokens)], []lex.Token{name("r1"), sign("="), number(5)})
		args = append(args, tokens)
	}
	copy(args[len(args):cap(args)], [][]lex.Token{{name("r2")}, {number(6)}, {name("x")}})
	l.Args = args
	return l
}

// whole answers the arguments of a line with what lies in their spare room.
func whole(l line.Line) [][]lex.Token {
	args := slices.Clone(l.Args[:cap(l.Args)])
	for i := range args {
		args[i] = slices.Clone(args[i][:cap(args[i])])
	}
	return args
}

// someLines are lines of each kind, such as are refused among them.
func someLines() []string {
	l := []string{"", "a:", "nope r1", "lis r1, 300", "ldp r1, =a*b", "ldp r1, =", "ldp r1, 5", "word b+a, c-a, 5, d+c+b+a", "byte 1, 2, 3", "byte 1, 300", "byte", "equ x, d+c-a", "equ r1, 2", "global x", "section data", "add r1", "jmp b+a+b"}
	for _, r := range rules() {
		l = append(l, text(r.name, rightArgs(r)))
	}
	return l
}

func TestWhatIsHandedInStays(t *testing.T) {
	for _, s := range someLines() {
		for _, section := range []int{item.Text, item.Data, 7} {
			want, wantWhy := item.Read(parse(t, s), section)
			l := spared(parse(t, s))
			before := whole(l)
			got, why := item.Read(l, section)
			// The spare room is not read.
			if why != wantWhy || !sameThing(got, want) {
				t.Errorf("%q with spare room: %+v, %v; not %+v, %v", s, got, why, want, wantWhy)
			}
			if !slices.EqualFunc(whole(l), before, slices.Equal[[]lex.Token]) {
				t.Errorf("%q: what was handed in is %+v, not %+v", s, whole(l), before)
			}
		}
	}
}

// What is answered stays as it is, whatever becomes of what was handed in.
func TestNothingThatIsHandedInIsKept(t *testing.T) {
	for _, s := range someLines() {
		for _, section := range []int{item.Text, item.Data} {
			want, _ := item.Read(parse(t, s), section)
			l := spared(parse(t, s))
			got, _ := item.Read(l, section)
			for _, arg := range l.Args {
				for i := range arg[:cap(arg)] {
					arg[:cap(arg)][i] = lex.Token{Kind: -1, Text: "?", N: 99, At: -1}
				}
			}
			clear(l.Args[:cap(l.Args)])
			if !sameThing(got, want) {
				t.Errorf("%q: %+v, not %+v", s, got, want)
			}
		}
	}
}

// lists answers the lists of terms of a thing.
func lists(x item.Thing) [][]api.Term {
	l := [][]api.Term{x.E.Terms}
	for _, i := range x.Items {
		l = append(l, i.E.Terms)
	}
	return l
}

// scribble writes over all that a list of terms holds, its spare room too.
func scribble(l []api.Term) {
	l = l[:cap(l)]
	for i := range l {
		l[i] = api.Term{Name: "?", Coef: 99}
	}
}

func TestAnswersAreNewMemory(t *testing.T) {
	for _, s := range someLines() {
		for _, section := range []int{item.Text, item.Data} {
			l := parse(t, s)
			want, _ := item.Read(l, section)
			first, _ := item.Read(l, section)
			second, _ := item.Read(l, section)
			for _, terms := range lists(first) {
				scribble(terms)
			}
			clear(first.Items[:cap(first.Items)])
			third, _ := item.Read(l, section)
			if !sameThing(second, want) || !sameThing(third, want) {
				t.Errorf("%q: %+v, %+v; not %+v", s, second, third, want)
			}
		}
	}
}

func TestListsOfOneAnswerShareNoMemory(t *testing.T) {
	for _, s := range []string{"word b+a, c-a, 5, d+c+b+a, b+a, b+a", "word a, a, a", "word a-a, a, b-b"} {
		l := parse(t, s)
		want, _ := item.Read(l, item.Data)
		for i := range want.Items {
			got, _ := item.Read(l, item.Data)
			scribble(got.Items[i].E.Terms)
			_ = append(got.Items[i].E.Terms, term("?", 99))
			for j := range got.Items {
				if j != i && !sameItem(got.Items[j], want.Items[j]) {
					t.Errorf("%q: item %d hangs on item %d: %+v", s, j, i, got.Items[j])
				}
			}
		}
	}
}

func TestNamesHoldOnToNoText(t *testing.T) {
	for _, s := range []string{"equ x1, a1", "global x1", "word a1, b1", "jmp a1"} {
		l := parse(t, s)
		got, _ := item.Read(l, item.Data)
		if s == "jmp a1" {
			got, _ = item.Read(l, item.Text)
		}
		names := []string{got.Name}
		for _, terms := range lists(got) {
			for _, x := range terms {
				names = append(names, x.Name)
			}
		}
		for _, arg := range l.Args {
			for _, token := range arg {
				for _, n := range names {
					if n != "" && unsafe.StringData(n) == unsafe.StringData(token.Text) {
						t.Errorf("%q: the name %q is a token's", s, n)
					}
				}
			}
		}
	}
}

func TestItemsStay(t *testing.T) {
	room := []api.Term{term("b", 2), term("a", 0), term("a", 1), term("r1", 3)}
	for n := range len(room) + 1 {
		for _, section := range []int{item.Text, item.Data, 5} {
			for _, x := range append(rightItems(item.Text), rightItems(item.Data)...) {
				l := slices.Clone(room)
				x.E = api.Lin{Terms: l[:n]}
				y := x
				// What lies behind the length is not read, and nothing is written.
				y.E.Terms = slices.Clip(slices.Clone(l[:n]))
				if why, want := item.Right(x, section), item.Right(y, section); why != want {
					t.Errorf("Right(%+v, %d): %v, not %v", x, section, why, want)
				}
				if !slices.Equal(l, room) {
					t.Fatalf("Right(%+v, %d) has made the terms %v", x, section, l)
				}
			}
		}
	}
}

// R4: nil and empty lists mean the same.
func TestNilAndEmptyLists(t *testing.T) {
	for _, section := range []int{item.Text, item.Data} {
		for _, x := range append(rightItems(item.Text), rightItems(item.Data)...) {
			if len(x.E.Terms) > 0 {
				continue
			}
			y := x
			x.E.Terms, y.E.Terms = nil, []api.Term{}
			if item.Right(x, section) != item.Right(y, section) {
				t.Errorf("%+v in %d: nil and empty terms are not one", x, section)
			}
		}
		for _, r := range rules() {
			x, xWhy := item.Read(line.Line{Op: r.name}, section)
			y, yWhy := item.Read(line.Line{Op: r.name, Args: [][]lex.Token{}}, section)
			if xWhy != yWhy || !sameThing(x, y) {
				t.Errorf("%s in %d: nil and empty arguments are not one", r.name, section)
			}
		}
	}
}

// The calls hang on what they are given alone: refused ones change nothing that a later one tells.
func TestCallsDoNotHangOnEachOther(t *testing.T) {
	lines := someLines()
	for _, a := range lines {
		for _, b := range lines {
			for _, section := range []int{item.Text, item.Data} {
				want, wantWhy := item.Read(parse(t, b), section)
				item.Read(parse(t, a), section)
				if got, why := item.Read(parse(t, b), section); why != wantWhy || !sameThing(got, want) {
					t.Errorf("%q behind %q: %+v, %v; not %+v, %v", b, a, got, why, want, wantWhy)
				}
			}
		}
	}
}
