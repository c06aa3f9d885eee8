package line_test

import (
	"regexp"
	"slices"
	"strings"
	"testing"
	"unsafe"

	"spandrel/api"
	"spandrel/lex"
	"spandrel/line"
)

func name(s string, at int) lex.Token {
	return lex.Token{Kind: lex.Name, Text: s, At: at}
}

func sign(s string, at int) lex.Token {
	return lex.Token{Kind: lex.Sign, Text: s, At: at}
}

func number(s string, n uint32, at int) lex.Token {
	return lex.Token{Kind: lex.Number, Text: s, N: n, At: at}
}

func arg(tokens ...lex.Token) []lex.Token {
	return tokens
}

func same(a, b line.Line) bool {
	return a.Label == b.Label && a.Op == b.Op && slices.EqualFunc(a.Args, b.Args, slices.Equal)
}

func takes(t *testing.T, s, label, op string, args ...[]lex.Token) {
	t.Helper()
	got, at, why := line.Parse(s)
	if want := (line.Line{Label: label, Op: op, Args: args}); !same(got, want) || at != 0 || why != api.OK {
		t.Errorf("Parse(%q): %+v, %d, %v; not %+v", s, got, at, why, want)
	}
}

func refuses(t *testing.T, s string, want int) {
	t.Helper()
	got, at, why := line.Parse(s)
	if !same(got, line.Line{}) || at != want || why != api.ErrSyntax {
		t.Errorf("Parse(%q): %+v, %d, %v; not refused at %d", s, got, at, why, want)
	}
}

// linesOf goes over src and holds the numbers of its lines against their places.
func linesOf(t *testing.T, src string) []string {
	t.Helper()
	var out []string
	for n, s := range line.All(src) {
		out = append(out, s)
		if n != len(out) {
			t.Errorf("All(%q): line %d has the number %d", src, len(out), n)
		}
	}
	return out
}

func hands(t *testing.T, src string, want ...string) {
	t.Helper()
	if got := linesOf(t, src); !slices.Equal(got, want) {
		t.Errorf("All(%q): %q, not %q", src, got, want)
	}
}

// The table 'Runs' and the 'Examples'.

func TestRuns(t *testing.T) {
	takes(t, "x: add r1, r2", "x", "add", arg(name("r1", 7)), arg(name("r2", 11)))
	refuses(t, "add r1,", 7)
	refuses(t, "add , r1", 4)
	refuses(t, ": add", 0)
	refuses(t, "3", 0)
	refuses(t, "a: b: c", 4)
	hands(t, "a\n\nb", "a", "", "b")
}

func TestExamples(t *testing.T) {
	takes(t, "", "", "")
	hands(t, "")
	takes(t, "x:", "x", "")
}

// P3.1

func TestALineOfNothing(t *testing.T) {
	for _, s := range []string{"", " ", "\t", "\r", " \t\r ", ";", "; add r1, : $ 007", " \t; x: add", ";\n"} {
		takes(t, s, "", "")
	}
}

func TestALabelAlone(t *testing.T) {
	long := strings.Repeat("q", api.MaxName)
	for _, label := range []string{"x", "_", "add", "r1", "z3", "r8", long} {
		for _, s := range []string{label + ":", " " + label + ":", label + "\t:\r", label + ": ; y: add", label + ":;"} {
			takes(t, s, label, "")
		}
	}
}

func TestAnOperationWithoutArguments(t *testing.T) {
	for _, op := range []string{"halt", "_", "r1", "z0", strings.Repeat("q", api.MaxName)} {
		for _, s := range []string{op, " " + op + "\r", "\t" + op + " ; r1, r2", op + ";"} {
			takes(t, s, "", op)
		}
		for _, s := range []string{"x:" + op, " x : " + op + " ", "x: " + op + ";: y"} {
			takes(t, s, "x", op)
		}
	}
	takes(t, "halt:halt", "halt", "halt")
}

func TestArgumentsOfOneToken(t *testing.T) {
	takes(t, "jmp b", "", "jmp", arg(name("b", 4)))
	takes(t, "jmp 0x1f", "", "jmp", arg(number("0x1f", 31, 4)))
	takes(t, "byte 1,2 , 3", "", "byte", arg(number("1", 1, 5)), arg(number("2", 2, 7)), arg(number("3", 3, 11)))
	takes(t, "x:add r1,r2;,", "x", "add", arg(name("r1", 6)), arg(name("r2", 9)))
	takes(t, "op op", "", "op", arg(name("op", 3)))
	takes(t, "op'a'", "", "op", arg(number("'a'", 97, 2)))
	for _, s := range []string{"(", ")", "+", "-", "*", "="} {
		takes(t, "op "+s, "", "op", arg(sign(s, 3)))
		takes(t, "op"+s, "", "op", arg(sign(s, 2)))
		takes(t, "x: op "+s+","+s, "x", "op", arg(sign(s, 6)), arg(sign(s, 8)))
	}
}

func TestArgumentsOfManyTokens(t *testing.T) {
	takes(t, "x: add r1, r2+1", "x", "add", arg(name("r1", 7)), arg(name("r2", 11), sign("+", 13), number("1", 1, 14)))
	takes(t, "ld r1, =a-b , ) (", "", "ld", arg(name("r1", 3)), arg(sign("=", 7), name("a", 8), sign("-", 9), name("b", 10)), arg(sign(")", 14), sign("(", 16)))
	takes(t, "a b c 1 2 d", "", "a", arg(name("b", 2), name("c", 4), number("1", 1, 6), number("2", 2, 8), name("d", 10)))
	takes(t, "k = 3", "", "k", arg(sign("=", 2), number("3", 3, 4)))
	takes(t, "a - b, c", "", "a", arg(sign("-", 2), name("b", 4)), arg(name("c", 7)))
}

// What stands in a number of one byte is a part of that number alone.
func TestNumbersAreNoSigns(t *testing.T) {
	takes(t, "byte ',', ':'", "", "byte", arg(number("','", ',', 5)), arg(number("':'", ':', 10)))
	takes(t, "byte ';'", "", "byte", arg(number("';'", ';', 5)))
	takes(t, "x ':'", "", "x", arg(number("':'", ':', 2)))
	takes(t, "x ','", "", "x", arg(number("','", ',', 2)))
	refuses(t, "x ':' :", 6)
}

func TestManyArguments(t *testing.T) {
	n := 5000
	s := "x: byte " + strings.Repeat("1+a,", n) + "2"
	got, at, why := line.Parse(s)
	if got.Label != "x" || got.Op != "byte" || len(got.Args) != n+1 || at != 0 || why != api.OK {
		t.Fatalf("%q, %q, %d arguments, %d, %v", got.Label, got.Op, len(got.Args), at, why)
	}
	for i, a := range got.Args[:n] {
		if p := len("x: byte ") + 4*i; !slices.Equal(a, arg(number("1", 1, p), sign("+", p+1), name("a", p+2))) {
			t.Fatalf("argument %d: %+v", i, a)
		}
	}
	refuses(t, s+",", len(s)+1)
	refuses(t, s+":", len(s))
	long := "x " + strings.Repeat("(", n)
	if got, at, why := line.Parse(long); len(got.Args) != 1 || len(got.Args[0]) != n || at != 0 || why != api.OK {
		t.Errorf("%d arguments, %d, %v", len(got.Args), at, why)
	}
}

func TestACommaAheadOfTheFirstArgument(t *testing.T) {
	refuses(t, "add , r1", 4)
	refuses(t, "add,", 3)
	refuses(t, "add ,", 4)
	refuses(t, "add,,", 3)
	refuses(t, "x: add , r1", 7)
	refuses(t, "x:add,:", 5)
}

func TestACommaBehindTheLastArgument(t *testing.T) {
	for _, s := range []string{"add r1,", "add r1, ", "add r1, r2,", "add r1,\t\r", "x: add r1+1,", "add r1, ; r2", "add r1,;", "y: add 1 , ; a: b"} {
		refuses(t, s, len(s))
	}
}

func TestTwoCommasInARow(t *testing.T) {
	refuses(t, "add r1,,r2", 7)
	refuses(t, "add r1, , r2", 8)
	refuses(t, "add r1,,", 7)
	refuses(t, "add r1, r2, ,", 12)
	refuses(t, "x: add r1,r2,,,", 13)
}

func TestAColonWhereNoneMayStand(t *testing.T) {
	refuses(t, ":", 0)
	refuses(t, " : x", 1)
	refuses(t, "::", 0)
	refuses(t, "x::", 2)
	refuses(t, "x: :", 3)
	refuses(t, "x: : add", 3)
	refuses(t, "a: b:", 4)
	refuses(t, "a b:", 3)
	refuses(t, "a b: c", 3)
	refuses(t, "a: b c:", 6)
	refuses(t, "a b, c: d", 6)
	refuses(t, "a b, :", 5)
	refuses(t, "a b,:", 4)
	refuses(t, "a 1 : , ,", 4)
	refuses(t, "a (:)", 3)
}

func TestALineThatBeginsWithANumberOrASign(t *testing.T) {
	for _, s := range []string{"3", "0x1f", "'a'", "':'", "','", ":", ",", "(", ")", "+", "-", "*", "="} {
		refuses(t, s, 0)
		refuses(t, " "+s, 1)
		refuses(t, s+":", 0)
		refuses(t, s+" : add", 0)
		refuses(t, s+" add r1", 0)
		refuses(t, "x:"+s, 2)
		refuses(t, "x: "+s+" add", 3)
		refuses(t, "x: "+s+" : add", 3)
	}
}

func TestWhatTokensRefuses(t *testing.T) {
	for s, want := range map[string]int{"$": 0, "add $": 4, "x: $": 3, "add r1, 007": 8, "x: add r1, '": 11, "add 1a": 4, "a\nb": 1, "\n": 0, "add 4294967296": 4, "x:\x00": 2, "a é": 2, strings.Repeat("a", api.MaxName+1) + ": x": 0} {
		refuses(t, s, want)
		if _, at, why := lex.Tokens(s); at != want || why != api.ErrSyntax {
			t.Errorf("Tokens(%q): %d, %v", s, at, why)
		}
	}
}

// What Tokens refuses is told ahead of any token that may not stand where it does.
func TestTokensRefusesFirst(t *testing.T) {
	refuses(t, ": $", 2)
	refuses(t, "3 007", 2)
	refuses(t, "a: b: $", 6)
	refuses(t, "add , r1 '", 9)
	refuses(t, "add r1,, r2, $", 13)
	refuses(t, "add r1, $", 8)
}

func TestTheFirstTokenThatMayNotStandIsTold(t *testing.T) {
	refuses(t, ", :", 0)
	refuses(t, "a: , :", 3)
	refuses(t, "a , :", 2)
	refuses(t, "a b : ,", 4)
	refuses(t, "a b,, :", 4)
	refuses(t, "a b :,", 4)
}

// The form of a line, and of what a line may begin with, over the kinds of its tokens: a name, a number, another sign, a colon, a comma.
var (
	wholeLine = regexp.MustCompile(`^(a:)?(a([a1+]+(,[a1+]+)*)?)?$`)
	lineBegun = regexp.MustCompile(`^(a:)?(a([a1+]+,)*[a1+]*)?$`)
)

// spread puts a blank ahead of each token.
func spread(kinds string) string {
	return " " + strings.Join(strings.Split(kinds, ""), " ")
}

// placeOf answers where the i-th token of what spread answers stands.
func placeOf(i int) int {
	return 2*i + 1
}

func TestAllShortLines(t *testing.T) {
	lines := []string{""}
	for range 7 {
		var longer []string
		for _, kinds := range lines {
			for _, c := range "a1+:," {
				longer = append(longer, kinds+string(c))
			}
		}
		lines = longer
		for _, kinds := range lines {
			holdsAgainstForm(t, kinds)
		}
	}
}

func holdsAgainstForm(t *testing.T, kinds string) {
	t.Helper()
	s := spread(kinds)
	for i := range kinds {
		if !lineBegun.MatchString(kinds[:i+1]) {
			refuses(t, s, placeOf(i))
			return
		}
	}
	if !wholeLine.MatchString(kinds) {
		refuses(t, s, len(s))
		refuses(t, s+" ; a", len(s)+4)
		return
	}
	got, at, why := line.Parse(s)
	if at != 0 || why != api.OK || putTogether(got) != kinds {
		t.Errorf("Parse(%q): %+v, %d, %v", s, got, at, why)
	}
	for _, tokens := range got.Args {
		for _, token := range tokens {
			if s[token.At:token.At+1] != token.Text {
				t.Errorf("Parse(%q): %+v", s, token)
			}
		}
	}
}

func putTogether(l line.Line) string {
	out := ""
	if l.Label != "" {
		out = l.Label + ":"
	}
	var args []string
	for _, tokens := range l.Args {
		text := ""
		for _, token := range tokens {
			text += token.Text
		}
		args = append(args, text)
	}
	return out + l.Op + strings.Join(args, ",")
}

// P3.2

func TestLinesStandBetweenBytes10(t *testing.T) {
	hands(t, "a", "a")
	hands(t, "a\n", "a")
	hands(t, "a\nb", "a", "b")
	hands(t, "a\nb\n", "a", "b")
	hands(t, "\n", "")
	hands(t, "\n\n", "", "")
	hands(t, "\n\n\n", "", "", "")
	hands(t, "\na", "", "a")
	hands(t, "a\n\n", "a", "")
	hands(t, "a\n\n\nb\n\n", "a", "", "", "b", "")
	hands(t, "\n ", "", " ")
}

func TestLinesAreHandedOutAsTheyAre(t *testing.T) {
	hands(t, " x: add\t\r\n; y\r\n\r\n\r", " x: add\t\r", "; y\r", "\r", "\r")
	hands(t, "\x00\xff\né$\n\v\f\u2028\u0085", "\x00\xff", "é$", "\v\f\u2028\u0085")
	hands(t, "';\n'", "';", "'")
}

func TestAllShortSources(t *testing.T) {
	sources := []string{""}
	for range 8 {
		var longer []string
		for _, src := range sources {
			for _, c := range "a\n;" {
				longer = append(longer, src+string(c))
			}
		}
		sources = longer
		for _, src := range sources {
			want := strings.Split(src, "\n")
			if want[len(want)-1] == "" {
				want = want[:len(want)-1]
			}
			hands(t, src, want...)
		}
	}
}

func TestASourceOfManyLines(t *testing.T) {
	n := 100000
	for _, src := range []string{strings.Repeat("\n", n), strings.Repeat("ab\n", n), strings.Repeat("ab\n", n-1) + "c"} {
		if got := linesOf(t, src); len(got) != n {
			t.Errorf("%d lines", len(got))
		}
	}
}

func TestGoingOverASourceAgain(t *testing.T) {
	for _, src := range []string{"", "a", "a\n\nb\n", "\n\n"} {
		all := line.All(src)
		var first []string
		for range 3 {
			var got []string
			for n, s := range all {
				got = append(got, s)
				if n != len(got) {
					t.Errorf("%q: line %d has the number %d", src, len(got), n)
				}
			}
			if first != nil && !slices.Equal(got, first) {
				t.Errorf("%q: %q, then %q", src, first, got)
			}
			first = got
		}
	}
}

func TestLeavingASourceAfterAnyLine(t *testing.T) {
	want := []string{"a", "", "b", "", "", "c"}
	all := line.All(strings.Join(want, "\n"))
	for last := 1; last <= len(want); last++ {
		var got []string
		// Called by hand: a loop would not show a call that comes too late.
		all(func(n int, s string) bool {
			got = append(got, s)
			if n != len(got) {
				t.Errorf("line %d has the number %d", len(got), n)
			}
			return n < last
		})
		if !slices.Equal(got, want[:last]) {
			t.Errorf("left after line %d: %q", last, got)
		}
	}
	if got := linesOf(t, strings.Join(want, "\n")); !slices.Equal(got, want) {
		t.Errorf("after all of them: %q", got)
	}
}

func TestGoingOverASourceWithinItself(t *testing.T) {
	all := line.All("a\nb\nc")
	var got []int
	for n := range all {
		for m := range all {
			got = append(got, 10*n+m)
			if m == n {
				break
			}
		}
	}
	if want := []int{11, 21, 22, 31, 32, 33}; !slices.Equal(got, want) {
		t.Errorf("%v, not %v", got, want)
	}
}

// A line of a source is one that Parse takes or refuses as if it stood alone.
func TestTheLinesOfASourceParsed(t *testing.T) {
	src := "x: li r1, 3\n\n; a remark\nadd r1,\n y:"
	want := []api.Errno{api.OK, api.OK, api.OK, api.ErrSyntax, api.OK}
	for n, s := range line.All(src) {
		if _, _, why := line.Parse(s); why != want[n-1] {
			t.Errorf("line %d: %v", n, why)
		}
	}
}

// R2

func TestAnswersAreNewMemory(t *testing.T) {
	s := "x: add r1+2, r3, (r4)"
	first, _, _ := line.Parse(s)
	second, _, _ := line.Parse(s)
	want, _, _ := line.Parse(s)
	for i := range first.Args {
		overwrite(first.Args[i])
	}
	for i := range first.Args {
		first.Args[i] = nil
	}
	if !same(second, want) {
		t.Errorf("%+v, not %+v", second, want)
	}
}

func TestArgumentsShareNoMemory(t *testing.T) {
	s := "x: add r1+2, r3, (r4), 5, -6, a+b+c+d+e"
	want, _, _ := line.Parse(s)
	for i := range want.Args {
		got, _, _ := line.Parse(s)
		overwrite(got.Args[i])
		for j := range got.Args {
			if j != i && !slices.Equal(got.Args[j], want.Args[j]) {
				t.Errorf("argument %d hangs on argument %d: %+v", j, i, got.Args[j])
			}
		}
	}
}

// overwrite writes all that tokens hold, their spare room too.
func overwrite(tokens []lex.Token) {
	tokens = tokens[:cap(tokens)]
	for i := range tokens {
		tokens[i] = lex.Token{Kind: -1, Text: "?", N: 99, At: -1}
	}
}

func TestTextsShareNoMemoryWithTheSource(t *testing.T) {
	src := "label: operation argument+1\nsecond"
	for _, s := range linesOf(t, src) {
		if lieWithin(s, src) {
			t.Errorf("the line %q lies within the source", s)
		}
		l, _, _ := line.Parse(s)
		texts := []string{l.Label, l.Op}
		for _, tokens := range l.Args {
			for _, token := range tokens {
				texts = append(texts, token.Text)
			}
		}
		for _, text := range texts {
			if lieWithin(text, s) {
				t.Errorf("%q lies within the line %q", text, s)
			}
		}
	}
}

func lieWithin(part, whole string) bool {
	if part == "" {
		return false
	}
	at := uintptr(unsafe.Pointer(unsafe.StringData(part)))
	from := uintptr(unsafe.Pointer(unsafe.StringData(whole)))
	return from <= at && at < from+uintptr(len(whole))
}
