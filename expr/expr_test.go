package expr_test

import (
	"maps"
	"math/rand"
	"slices"
	"strconv"
	"strings"
	"testing"
	"unsafe"

	"spandrel/api"
	"spandrel/expr"
	"spandrel/lex"
)

const most = 1<<32 - 1

func name(s string) lex.Token {
	return lex.Token{Kind: lex.Name, Text: s}
}

func sign(s string) lex.Token {
	return lex.Token{Kind: lex.Sign, Text: s}
}

func number(n uint32) lex.Token {
	return lex.Token{Kind: lex.Number, Text: strconv.FormatUint(uint64(n), 10), N: n}
}

func term(name string, coef uint32) api.Term {
	return api.Term{Name: name, Coef: coef}
}

func lin(n uint32, terms ...api.Term) api.Lin {
	return api.Lin{Terms: terms, Const: n}
}

// one holds two Lins against each other without the package's own Same.
func one(x, y api.Lin) bool {
	return x.Const == y.Const && slices.Equal(x.Terms, y.Terms)
}

func tokens(t *testing.T, s string) []lex.Token {
	t.Helper()
	l, at, why := lex.Tokens(s)
	if why != api.OK {
		t.Fatalf("Tokens(%q): %d, %v", s, at, why)
	}
	return l
}

func takes(t *testing.T, s string, n uint32, terms ...api.Term) {
	t.Helper()
	got, why := expr.Parse(tokens(t, s))
	if want := lin(n, terms...); !one(got, want) || why != api.OK || !expr.Right(got) {
		t.Errorf("Parse(%q): %+v, %v; not %+v", s, got, why, want)
	}
}

func refuses(t *testing.T, want api.Errno, texts ...string) {
	t.Helper()
	for _, s := range texts {
		refusesTokens(t, want, tokens(t, s)...)
	}
}

func refusesTokens(t *testing.T, want api.Errno, l ...lex.Token) {
	t.Helper()
	if got, why := expr.Parse(l); !one(got, api.Lin{}) || why != want {
		t.Errorf("Parse of %d tokens, at first %+v: %+v, %v; not refused with %v", len(l), l[:min(len(l), 9)], got, why, want)
	}
}

// within puts s into so many parentheses.
func within(n int, s string) string {
	return strings.Repeat("(", n) + s + strings.Repeat(")", n)
}

// The table 'Runs' and the 'Examples'.

func TestRuns(t *testing.T) {
	takes(t, "2*(a - 3) + b - a", 4294967290, term("a", 1), term("b", 1))
	refuses(t, api.ErrBad, "a*b")
	takes(t, "(a-a)*b", 0)
	refuses(t, api.ErrSyntax, "a+", "r1")
	first := lin(4294967290, term("a", 1), term("b", 1))
	if s := expr.Text(first); s != "a+b+4294967290" {
		t.Errorf("Text: %q", s)
	}
	if n, ok := expr.Value(first, map[string]uint32{"a": 10, "b": 1}); n != 5 || !ok {
		t.Errorf("Value: %d, %t", n, ok)
	}
}

func TestExamples(t *testing.T) {
	refuses(t, api.ErrSyntax, "")
	takes(t, "- -1", 1)
	if s := expr.Text(expr.Of(0)); s != "0" {
		t.Errorf("Text(Of(0)): %q", s)
	}
}

// P4.1

func TestNoTokens(t *testing.T) {
	refusesTokens(t, api.ErrSyntax)
	refusesTokens(t, api.ErrSyntax, []lex.Token{}...)
	refuses(t, api.ErrSyntax, " ", "; a")
	spare := tokens(t, "a+1")
	refusesTokens(t, api.ErrSyntax, spare[:0]...)
}

func TestANumberAlone(t *testing.T) {
	for s, n := range map[string]uint32{"0": 0, "1": 1, "255": 255, "2147483647": 1<<31 - 1, "2147483648": 1 << 31, "4294967295": most, "0x0": 0, "0xffffffff": most, "' '": 32, "'a'": 97, "'('": 40, "'-'": 45, "';'": 59} {
		takes(t, s, n)
		takes(t, "-"+s, -n)
		takes(t, "("+s+")", n)
	}
}

func TestANameAlone(t *testing.T) {
	for _, s := range []string{"a", "Z", "_", "r8", "r", "z4", "z", "r00", "R1", "Z0", "add", "equ", "text", strings.Repeat("q", api.MaxName)} {
		takes(t, s, 0, term(s, 1))
		takes(t, "-"+s, 0, term(s, most))
		takes(t, "("+s+")", 0, term(s, 1))
		takes(t, "0*"+s, 0)
	}
}

func TestARegisterIsNoFactor(t *testing.T) {
	for _, s := range []string{"r0", "r1", "r2", "r3", "r4", "r5", "r6", "r7", "z0", "z1", "z2", "z3"} {
		refuses(t, api.ErrSyntax, s, "-"+s, "("+s+")", "a+"+s, s+"+a", "a-"+s, "2*"+s, s+"*2", "0*"+s, s+"-"+s, "a "+s, "a*"+s, "a+(1+"+s+")")
	}
}

func TestTermsRiseByName(t *testing.T) {
	takes(t, "b+a", 0, term("a", 1), term("b", 1))
	takes(t, "3+c+b+1+a", 4, term("a", 1), term("b", 1), term("c", 1))
	// Go's order is that of the bytes: great letters, _, small ones; a beginning ahead of the whole.
	takes(t, "b+_+aa+B+a_+a0+aA+a+Z9+Z+r8+r10", 0, term("B", 1), term("Z", 1), term("Z9", 1), term("_", 1), term("a", 1), term("a0", 1), term("aA", 1), term("a_", 1), term("aa", 1), term("b", 1), term("r10", 1), term("r8", 1))
}

func TestCoefficientsAreSummed(t *testing.T) {
	takes(t, "a+a", 0, term("a", 2))
	takes(t, "a+b+a-b+a+b", 0, term("a", 3), term("b", 1))
	takes(t, "2*a+3*a", 0, term("a", 5))
	takes(t, "a*2+3*a*4-a", 0, term("a", 13))
	takes(t, "2*(a+3*(b-2)+1)-(a-b)", 4294967286, term("a", 1), term("b", 7))
	takes(t, "(a)+(a)", 0, term("a", 2))
	takes(t, "a-(b-(c))", 0, term("a", 1), term("b", most), term("c", 1))
	takes(t, "7*(a+b)*3", 0, term("a", 21), term("b", 21))
	takes(t, "(a+b)*(2+1)", 0, term("a", 3), term("b", 3))
}

func TestNumbersAreSummed(t *testing.T) {
	takes(t, "1+2+3", 6)
	takes(t, "10-3-2", 5)
	takes(t, "10-(3-2)", 9)
	takes(t, "2+3*4", 14)
	takes(t, "2*3+4", 10)
	takes(t, "(2+3)*4", 20)
	takes(t, "2*(3+4)", 14)
	takes(t, "2*3*4", 24)
	takes(t, "10-2*3", 4)
	takes(t, "-2*3+10", 4)
	takes(t, "'a'-'A'", 32)
}

func TestAllIsModulo2To32(t *testing.T) {
	takes(t, "4294967295+1", 0)
	takes(t, "4294967295+4294967295", most-1)
	takes(t, "0-1", most)
	takes(t, "-1", most)
	takes(t, "-4294967295", 1)
	takes(t, "-2147483648", 1<<31)
	takes(t, "4294967295*4294967295", 1)
	takes(t, "65536*65536", 0)
	takes(t, "65537*65537", 131073)
	takes(t, "2147483648*2", 0)
	takes(t, "a-2*a", 0, term("a", most))
	takes(t, "4294967295*a+3*a", 0, term("a", 2))
	takes(t, "65537*65537*a", 0, term("a", 131073))
	takes(t, "4294967295*(a-1)", 1, term("a", most))
	takes(t, "2147483649*(2*a+4294967295)", 2147483647, term("a", 2))
}

func TestTermsWithTheCoefficient0FallAway(t *testing.T) {
	takes(t, "a-a", 0)
	takes(t, "a+b-a", 0, term("b", 1))
	takes(t, "a+b-b+1", 1, term("a", 1))
	takes(t, "a+b-(a+b)+7", 7)
	takes(t, "0*a", 0)
	takes(t, "a*0+5", 5)
	takes(t, "0*(a+b+3)+c", 0, term("c", 1))
	takes(t, "4294967295*a+a", 0)
	takes(t, "2147483648*a*2", 0)
	takes(t, "65536*(65536*a+b)", 0, term("b", 65536))
	takes(t, "2147483648*a+2147483648*a+b", 0, term("b", 1))
	takes(t, "-a+a", 0)
	takes(t, "3*a-a-a-a", 0)
	takes(t, "a+3*0x55555555*a", 0)
}

func TestSignsInARow(t *testing.T) {
	for _, n := range []int{1, 2, 3, 4, 33, 100, 65536, 1 << 17} {
		coef := uint32(1)
		if n%2 == 1 {
			coef = most
		}
		signs := strings.Repeat("-", n)
		takes(t, signs+"1", coef)
		takes(t, signs+"a", 0, term("a", coef))
		takes(t, signs+"(a+2)", 2*coef, term("a", coef))
		takes(t, "b-"+signs+"a", 0, term("a", -coef), term("b", 1))
		takes(t, "b+"+signs+"a", 0, term("a", coef), term("b", 1))
		takes(t, "3*"+signs+"a", 0, term("a", 3*coef))
		takes(t, signs+"a*3", 0, term("a", 3*coef))
		refuses(t, api.ErrSyntax, signs, "a"+signs, signs+"+a", signs+"*a")
	}
	takes(t, "-(-(-a))", 0, term("a", most))
	takes(t, "- -(- -a)", 0, term("a", 1))
	takes(t, "-2*-3", 6)
	takes(t, "2*-a*-3", 0, term("a", 6))
}

func TestASignWhereNoneMayStand(t *testing.T) {
	refuses(t, api.ErrSyntax, "+", "-", "*", "+a", "*a", "+1", "*1", "a+", "a-", "a*", "1+", "a++b", "a-+b", "a*+b", "a+*b", "a-*b", "a**b", "-+a", "-*a", "(+a)", "(*a)", "(a+)", "(a-)", "(a*)", "a+(b*)", "(-)", "a+-", "a*-", "a-(", "a+)", "a*)")
}

func TestParenthesesOpenWithinOneAnother(t *testing.T) {
	for n := range api.MaxParens + 1 {
		takes(t, within(n, "1"), 1)
		takes(t, within(n, "a-2"), most-1, term("a", 1))
		takes(t, "3*"+within(n, "a")+"+b", 0, term("a", 3), term("b", 1))
		takes(t, strings.Repeat("-(", n)+"1"+strings.Repeat(")", n), uint32(1-2*(n%2)))
		takes(t, strings.Repeat("(1+", n)+"a"+strings.Repeat(")", n), uint32(n), term("a", 1))
		takes(t, strings.Repeat("2*(", n)+"a"+strings.Repeat(")", n), 0, slices.DeleteFunc([]api.Term{term("a", 1<<n)}, func(x api.Term) bool { return x.Coef == 0 })...)
	}
	for _, n := range []int{33, 34, 64, 1000, 1 << 17} {
		refuses(t, api.ErrBad, within(n, "1"), strings.Repeat("(", n), strings.Repeat("-(", n), strings.Repeat("2*(", n)+")", strings.Repeat("a+(", n)+"r1")
	}
}

// It is those that are open that count, not those that were.
func TestParenthesesThatAreClosedAgain(t *testing.T) {
	deep := within(api.MaxParens, "a")
	takes(t, deep+"+"+deep+"-2*"+deep, 0)
	takes(t, "("+within(31, "1")+"+"+within(31, "2")+")*"+within(32, "a"), 0, term("a", 3))
	takes(t, strings.Repeat("(1)+", 1000)+"(a)", 1000, term("a", 1))
	takes(t, "("+strings.Repeat("(1)*", 1000)+"(a))", 0, term("a", 1))
	takes(t, within(31, "(1)+(2)-(a)"), 3, term("a", most))
	refuses(t, api.ErrBad, within(32, "1+(2)"), within(31, "(1)+((2))"), "("+within(31, "1")+"+"+within(32, "2")+")", deep+"+"+within(33, "a"))
}

func TestAParenthesisThatIsNotClosed(t *testing.T) {
	refuses(t, api.ErrSyntax, "(", "(a", "(1", "((a)", "(a+b", "(a+(b)", "a+(b", "2*(a", "-(a", "(a)+(b", "(a*2", strings.Repeat("(", 32), strings.Repeat("(", 32)+"1", strings.Repeat("(", 32)+"1"+strings.Repeat(")", 31))
}

func TestAParenthesisThatWasNeverOpened(t *testing.T) {
	refuses(t, api.ErrSyntax, ")", "a)", "1)", "(a))", ")a", ")(", "a+b)", "a)+b", "2*a)", "-a)", "a)*2", "(1)+2)", within(32, "1")+")")
}

func TestParenthesesAroundNothing(t *testing.T) {
	refuses(t, api.ErrSyntax, "()", "(())", "a+()", "()+a", "2*()", "-()", "(a)+()", within(32, ""))
}

func TestTwoFactorsWithoutASignBetween(t *testing.T) {
	refuses(t, api.ErrSyntax, "a b", "a 1", "1 a", "1 2", "(a) b", "a (b)", "(a)(b)", "2(a)", "(a)2", "a+b c", "(a b)", "2*a b", "'a''b'", "a'b'", "a -1 b", "a r1", within(32, "a (b)"))
}

func TestOtherSignsAreNoPartOfAnExpression(t *testing.T) {
	for _, s := range []string{",", ":", "="} {
		refuses(t, api.ErrSyntax, s, s+"a", "a"+s, "a"+s+"b", "("+s+")", "(a"+s+"b)", "-"+s, "2*"+s, "a+"+s, "a"+s+"+b", "(a)"+s, s+s)
	}
}

func TestBothSidesOfAProductWithTerms(t *testing.T) {
	refuses(t, api.ErrBad, "a*b", "a*a", "-a*b", "a*-b", "(a)*(b)", "a*(b+c)", "(a+b)*c", "2*a*b", "a*2*b", "a*b*2", "a*b*0", "1+a*b", "a*b+1", "(a*b)", "a+(b*c)", "(a+1)*(b-b+c)", "(a-b)*(a-b)", "0*a+b*c", "2*(a*b)", "-(a*a)", "0*(a*b)", "(a*b)*0", "a*b-a*b", "(a+1)*(a-1)", "equ*x", "2147483648*a*b", within(32, "a*b"))
}

func TestANameWithTheCoefficient0IsNoTerm(t *testing.T) {
	takes(t, "(a-a)*b", 0)
	takes(t, "(a-a+3)*b", 0, term("b", 3))
	takes(t, "b*(a-a)", 0)
	takes(t, "b*(a-a+2)", 0, term("b", 2))
	takes(t, "0*a*b", 0)
	takes(t, "a*0*b", 0)
	takes(t, "a*0*b*0*c", 0)
	takes(t, "a*(0*b)", 0)
	takes(t, "(a-a)*(b-b)", 0)
	takes(t, "(a+1-a)*(b+2-b)", 2)
	takes(t, "2147483648*a*2*b", 0)
	takes(t, "2147483648*(2*a+1)*b", 0, term("b", 1<<31))
	takes(t, "(65536*a+1)*65536*b", 0, term("b", 65536))
	refuses(t, api.ErrBad, "b*(a-a)*0+c*c", "a*(b-2*b)", "(0*a+c)*b")
}

// Of two refusals the one is answered that a reading from the left meets first.
func TestTheFirstRefusalIsMet(t *testing.T) {
	refuses(t, api.ErrBad, "a*b+", "a*b)", "a*b c", "a*b r1", "a*b*", "a*b=", "a*b(", "(a*b", "a*b+(", "a*b*r1", "a*(b)c", "a*-b+", "(a*b,", "1+(2-a*b", strings.Repeat("(", 33)+"r1", strings.Repeat("(", 33)+")", "a*"+strings.Repeat("(", 33), "a*b+"+strings.Repeat("(", 33))
	refuses(t, api.ErrSyntax, "r1+a*b", "+a*b", "a c*b*d", "a*(b", "a*(b c)", "a*(b+)", "a*", "a*+b", "a*(b,", ")a*b", "a+)*b*c", "r1+"+strings.Repeat("(", 33), "a"+strings.Repeat("(", 33), strings.Repeat("(", 32)+"a(", strings.Repeat("(", 32)+"+(", strings.Repeat("(", 32)+"r1*(", strings.Repeat("(", 32)+")(")
}

// What is refused at a token is refused so whatever stands behind it.
func TestWhatStandsBehindARefusal(t *testing.T) {
	for s, want := range map[string]api.Errno{"a b": api.ErrSyntax, "r1": api.ErrSyntax, "a+*": api.ErrSyntax, "a)": api.ErrSyntax, "(a=": api.ErrSyntax, "a*b": api.ErrBad, "1+2*a*-c": api.ErrBad, strings.Repeat("(", 33): api.ErrBad} {
		for _, rest := range []string{"", "a", "1", "r1", "+", "-", "*", "(", ")", "=", ",", ":", "*0", "-a", "a*b", "+a*a", ")))", "(((("} {
			refuses(t, want, s+" "+rest)
		}
	}
}

// Tokens that no line gives: those that are no number, no name and no sign of an expression may not stand.
func TestTokensThatNoLineGives(t *testing.T) {
	for _, wrong := range []lex.Token{{}, {Text: "a"}, {Kind: 4, Text: "a"}, {Kind: -1, Text: "1", N: 1}, {Kind: 1 << 40}, name(""), name("1"), name("("), name("-"), name("a b"), name("a "), name("a;"), name("é"), name(strings.Repeat("a", api.MaxName+1)), name("r1"), sign(""), sign("a"), sign("1"), sign("++"), sign("/"), sign(" -"), sign("--")} {
		refusesTokens(t, api.ErrSyntax, wrong)
		refusesTokens(t, api.ErrSyntax, name("a"), sign("+"), wrong)
		refusesTokens(t, api.ErrSyntax, name("a"), wrong, name("b"))
		refusesTokens(t, api.ErrSyntax, name("a"), wrong)
		refusesTokens(t, api.ErrSyntax, sign("("), name("a"), wrong)
		refusesTokens(t, api.ErrSyntax, sign("-"), wrong, name("b"))
	}
}

// A number is what its N says, a name what its Text says; the places don't matter.
func TestWhatATokenSays(t *testing.T) {
	l := []lex.Token{{Kind: lex.Number, Text: "-", N: 7, At: -5}, {Kind: lex.Sign, Text: "*", N: 3, At: 99}, {Kind: lex.Name, Text: "a", N: 9, At: 1 << 40}}
	if x, why := expr.Parse(l); !one(x, lin(0, term("a", 7))) || why != api.OK {
		t.Errorf("%+v, %v", x, why)
	}
}

func TestAnExpressionOfManyParts(t *testing.T) {
	n := 1 << 17
	var l []lex.Token
	for i := range n {
		// Not in order, so that each one belongs elsewhere than behind the last.
		l = append(l, name("n"+strconv.Itoa(i*40503%n)), sign("+"), number(1), sign("-"))
	}
	x, why := expr.Parse(l[:len(l)-1])
	if len(x.Terms) != n || x.Const != uint32(n) || why != api.OK || !expr.Right(x) {
		t.Fatalf("%d terms, %d, %v", len(x.Terms), x.Const, why)
	}
	if x.Terms[0] != term("n0", 1) || x.Terms[1] != term("n1", most) {
		t.Errorf("%+v", x.Terms[:2])
	}
	refusesTokens(t, api.ErrSyntax, l...)
	takes(t, strings.Repeat("a+", n)+"a", 0, term("a", uint32(n)+1))
	takes(t, strings.Repeat("3*", n)+"0", 0)
	takes(t, strings.Repeat("-1*", n)+"a", 0, term("a", 1))
}

// A machine with stacks, built otherwise than a parser that calls itself: values are maps with the number at the empty name.
type machine struct {
	values []map[string]uint32
	ops    []byte // ( + - * and n, the - ahead of a factor
	inside bool   // a factor has ended: what comes now stands behind it
}

func (m *machine) pop(op byte) bool {
	if len(m.ops) == 0 || m.ops[len(m.ops)-1] != op {
		return false
	}
	m.ops = m.ops[:len(m.ops)-1]
	return true
}

func (m *machine) lift() map[string]uint32 {
	x := m.values[len(m.values)-1]
	m.values = m.values[:len(m.values)-1]
	return x
}

// combine puts x + coef*y on the stack.
func (m *machine) combine(x, y map[string]uint32, coef uint32) {
	out := map[string]uint32{}
	maps.Copy(out, x)
	for k, v := range y {
		out[k] += coef * v
	}
	maps.DeleteFunc(out, func(_ string, v uint32) bool { return v == 0 })
	m.values = append(m.values, out)
}

func constant(x map[string]uint32) bool {
	return len(x) == 0 || len(x) == 1 && x[""] != 0
}

func (m *machine) factorEnded() api.Errno {
	m.inside = true
	for m.pop('n') {
		m.combine(nil, m.lift(), most)
	}
	if !m.pop('*') {
		return api.OK
	}
	y, x := m.lift(), m.lift()
	if constant(y) {
		x, y = y, x
	}
	if !constant(x) {
		return api.ErrBad
	}
	m.combine(nil, y, x[""])
	return api.OK
}

func (m *machine) partEnded() {
	if m.pop('+') {
		y, x := m.lift(), m.lift()
		m.combine(x, y, 1)
	} else if m.pop('-') {
		y, x := m.lift(), m.lift()
		m.combine(x, y, most)
	}
}

func (m *machine) step(c byte) api.Errno {
	switch {
	case !m.inside && c == '-':
		m.ops = append(m.ops, 'n')
	case !m.inside && c == '(':
		m.ops = append(m.ops, '(')
		if strings.Count(string(m.ops), "(") > 32 {
			return api.ErrBad
		}
	case !m.inside && (c == 'a' || c == 'b'):
		m.values = append(m.values, map[string]uint32{string(c): 1})
		return m.factorEnded()
	case !m.inside && c == '2':
		m.values = append(m.values, map[string]uint32{"": 2})
		return m.factorEnded()
	case m.inside && (c == '+' || c == '-'):
		m.partEnded()
		fallthrough
	case m.inside && c == '*':
		m.ops = append(m.ops, c)
		m.inside = false
	case m.inside && c == ')':
		m.partEnded()
		if !m.pop('(') {
			return api.ErrSyntax
		}
		return m.factorEnded()
	default:
		return api.ErrSyntax
	}
	return api.OK
}

// run answers what s is, a byte a token, and whether one of its tokens, not its end, is refused.
func run(s string) (map[string]uint32, api.Errno, bool) {
	var m machine
	for i := range len(s) {
		if why := m.step(s[i]); why != api.OK {
			return nil, why, true
		}
	}
	if !m.inside || slices.Contains(m.ops, '(') {
		return nil, api.ErrSyntax, false
	}
	m.partEnded()
	return m.lift(), api.OK, false
}

func tokensOf(s string) []lex.Token {
	var l []lex.Token
	for _, c := range s {
		switch c {
		case 'a', 'b':
			l = append(l, name(string(c)))
		case '2':
			l = append(l, number(2))
		default:
			l = append(l, sign(string(c)))
		}
	}
	return l
}

// holdsAgainstMachine tells whether s is refused at one of its tokens.
func holdsAgainstMachine(t *testing.T, s string) bool {
	t.Helper()
	value, why, early := run(s)
	var want api.Lin
	for _, k := range slices.Sorted(maps.Keys(value)) {
		if k == "" {
			want.Const = value[k]
		} else {
			want.Terms = append(want.Terms, term(k, value[k]))
		}
	}
	if got, gotWhy := expr.Parse(tokensOf(s)); !one(got, want) || gotWhy != why {
		t.Fatalf("Parse of %q: %+v, %v; not %+v, %v", s, got, gotWhy, want, why)
	}
	return early
}

func TestAllShortExpressions(t *testing.T) {
	for _, shape := range []struct {
		ahead, behind string
		most          int
	}{{"", "", 7}, {strings.Repeat("(", 31), strings.Repeat(")", 31), 5}, {"a*(", ")", 6}, {"-(2-", ")*b", 6}} {
		begun := []string{""}
		for range shape.most {
			var longer []string
			for _, s := range begun {
				for _, c := range "ab2()+-*=" {
					next := s + string(c)
					holdsAgainstMachine(t, shape.ahead+next+shape.behind)
					// Behind a token that is refused nothing matters.
					if !holdsAgainstMachine(t, shape.ahead+next) {
						longer = append(longer, next)
					}
				}
			}
			begun = longer
		}
	}
}

// P4.2

func TestRight(t *testing.T) {
	long := strings.Repeat("q", api.MaxName)
	for _, x := range []api.Lin{{}, {Terms: []api.Term{}}, lin(7), lin(most), lin(0, term("a", 1)), lin(3, term("a", most)), lin(0, term("a", 2), term("b", 1)), lin(1, term("B", 1), term("_", 1), term("a", 1), term("a0", 1), term("aa", 1), term("b", 1)), lin(0, term("r8", 1), term("z4", 1)), lin(0, term(long, 5)), lin(0, term("add", 1), term("equ", 1))} {
		if !expr.Right(x) {
			t.Errorf("Right(%+v): false", x)
		}
	}
}

func TestNotRight(t *testing.T) {
	for _, x := range notRight() {
		if expr.Right(x) {
			t.Errorf("Right(%+v): true", x)
		}
	}
}

func notRight() []api.Lin {
	out := []api.Lin{
		lin(0, term("a", 0)), lin(1, term("a", 1), term("b", 0)), lin(0, term("a", 0), term("b", 1)),
		lin(0, term("b", 1), term("a", 1)), lin(0, term("a", 1), term("c", 1), term("b", 1)), lin(0, term("a", 1), term("B", 1)), lin(0, term("aa", 1), term("a", 1)), lin(0, term("r8", 1), term("r10", 1)),
		lin(0, term("a", 1), term("a", 1)), lin(0, term("a", 1), term("a", 2)), lin(0, term("a", 1), term("b", 1), term("b", most)), lin(0, term("a", 1), term("b", 1), term("a", 1)),
	}
	for _, s := range []string{"", " ", "1", "1a", "a b", "a ", " a", "a;", "a+b", "é", "a\n", "\x00", "'a'", "-", strings.Repeat("q", api.MaxName+1), "r0", "r7", "z0", "z3"} {
		out = append(out, lin(0, term(s, 1)), lin(5, term(s, 2), term("zz", 1)), lin(0, term("\x00", 1), term(s, 1)), lin(0, term("A", 1), term(s, 1)))
	}
	return out
}

// Of what is not right nothing is promised but that the calls end, and change nothing.
func TestCallsEndOfWhatIsNotRight(t *testing.T) {
	for _, x := range notRight() {
		before := slices.Clone(x.Terms)
		for _, y := range append(notRight(), lin(3, term("a", 1), term("b", most))) {
			expr.Add(x, y)
			expr.Add(y, x)
			expr.Same(x, y)
		}
		for _, n := range []uint32{0, 1, 2, 1 << 31, most} {
			expr.Times(x, n)
		}
		expr.Value(x, nil)
		expr.Value(x, map[string]uint32{"a": 1, "": 2, "r1": 3})
		expr.Text(x)
		if !slices.Equal(x.Terms, before) {
			t.Errorf("%+v became %+v", before, x.Terms)
		}
	}
}

// P4.3

func TestOf(t *testing.T) {
	for _, n := range []uint32{0, 1, 1 << 31, most} {
		if x := expr.Of(n); len(x.Terms) != 0 || x.Const != n {
			t.Errorf("Of(%d): %+v", n, x)
		}
	}
}

func TestNamed(t *testing.T) {
	for _, s := range []string{"a", "_", "r8", strings.Repeat("q", api.MaxName)} {
		if x := expr.Named(s); !one(x, lin(0, term(s, 1))) || !expr.Right(x) {
			t.Errorf("Named(%q): %+v", s, x)
		}
	}
}

func TestAdd(t *testing.T) {
	for _, c := range []struct{ x, y, want api.Lin }{
		{lin(0), lin(0), lin(0)},
		{lin(3), lin(4), lin(7)},
		{lin(most), lin(1), lin(0)},
		{lin(most), lin(most), lin(most - 1)},
		{lin(0, term("a", 1)), lin(0), lin(0, term("a", 1))},
		{lin(1, term("a", 1)), lin(2), lin(3, term("a", 1))},
		{lin(0, term("b", 3)), lin(7, term("a", 1)), lin(7, term("a", 1), term("b", 3))},
		{lin(0, term("a", 1)), lin(0, term("a", 1)), lin(0, term("a", 2))},
		{lin(5, term("a", 1)), lin(6, term("a", most)), lin(11)},
		{lin(0, term("a", 1<<31)), lin(0, term("a", 1<<31)), lin(0)},
		{lin(0, term("a", most)), lin(0, term("a", 3)), lin(0, term("a", 2))},
		{lin(0, term("a", 1), term("c", 2), term("e", 3)), lin(0, term("b", 4), term("c", 5), term("d", 6)), lin(0, term("a", 1), term("b", 4), term("c", 7), term("d", 6), term("e", 3))},
		{lin(0, term("a", 1), term("b", 1), term("c", 1)), lin(0, term("b", most)), lin(0, term("a", 1), term("c", 1))},
		{lin(0, term("A", 1), term("a", 1)), lin(0, term("_", 1)), lin(0, term("A", 1), term("_", 1), term("a", 1))},
	} {
		for _, got := range []api.Lin{expr.Add(c.x, c.y), expr.Add(c.y, c.x)} {
			if !one(got, c.want) || !expr.Right(got) {
				t.Errorf("Add(%+v, %+v): %+v, not %+v", c.x, c.y, got, c.want)
			}
		}
	}
}

func TestTimes(t *testing.T) {
	x := lin(5, term("a", 1), term("b", 1<<31), term("c", most), term("d", 0x10000))
	for _, c := range []struct {
		n    uint32
		want api.Lin
	}{
		{0, lin(0)},
		{1, x},
		{2, lin(10, term("a", 2), term("c", most-1), term("d", 0x20000))},
		{most, lin(most-4, term("a", most), term("b", 1<<31), term("c", 1), term("d", 0xffff0000))},
		{1 << 31, lin(1<<31, term("a", 1<<31), term("c", 1<<31))},
		{0x10000, lin(0x50000, term("a", 0x10000), term("c", 0xffff0000))},
	} {
		if got := expr.Times(x, c.n); !one(got, c.want) || !expr.Right(got) {
			t.Errorf("Times(%+v, %d): %+v, not %+v", x, c.n, got, c.want)
		}
	}
	for _, n := range []uint32{0, 1, most} {
		if got := expr.Times(api.Lin{}, n); !one(got, api.Lin{}) {
			t.Errorf("Times of nothing by %d: %+v", n, got)
		}
	}
	if got := expr.Times(lin(1<<31, term("a", 1<<31)), 2); !one(got, lin(0)) {
		t.Errorf("%+v", got)
	}
}

func TestSame(t *testing.T) {
	all := []api.Lin{lin(0), lin(1), lin(most), lin(0, term("a", 1)), lin(1, term("a", 1)), lin(0, term("a", 2)), lin(0, term("b", 1)), lin(0, term("A", 1)), lin(0, term("a", 1), term("b", 1)), lin(0, term("a", 1), term("b", 2)), lin(0, term("a", 1), term("c", 1)), lin(1, term("a", 1), term("b", 1)), lin(0, term("a", 1), term("b", 1), term("c", 1))}
	for i, x := range all {
		for j, y := range all {
			y.Terms = slices.Clone(y.Terms)
			if expr.Same(x, y) != (i == j) {
				t.Errorf("Same(%+v, %+v): %t", x, y, i != j)
			}
		}
	}
	if !expr.Same(api.Lin{Terms: nil}, api.Lin{Terms: []api.Term{}}) || !expr.Same(api.Lin{Terms: []api.Term{}, Const: 2}, lin(2)) {
		t.Error("no terms and none are not the same")
	}
}

// P4.4

func TestValue(t *testing.T) {
	at := map[string]uint32{"a": 10, "b": 1, "c": 1 << 31, "zero": 0, "m": most}
	for _, c := range []struct {
		x    api.Lin
		want uint32
	}{
		{lin(0), 0}, {lin(7), 7}, {lin(most), most},
		{lin(0, term("a", 1)), 10}, {lin(1, term("a", 3)), 31},
		{lin(0, term("zero", 5)), 0}, {lin(9, term("zero", most)), 9},
		{lin(4294967290, term("a", 1), term("b", 1)), 5},
		{lin(0, term("c", 2)), 0}, {lin(1, term("c", 1), term("m", 1)), 1 << 31},
		{lin(0, term("m", most)), 1}, {lin(most, term("a", most)), most - 10},
	} {
		if n, ok := expr.Value(c.x, at); n != c.want || !ok {
			t.Errorf("Value(%+v): %d, %t; not %d", c.x, n, ok, c.want)
		}
	}
	for _, none := range []map[string]uint32{nil, {}} {
		if n, ok := expr.Value(lin(3), none); n != 3 || !ok {
			t.Errorf("Value of a number: %d, %t", n, ok)
		}
	}
}

func TestValueOfANameThatIsMissing(t *testing.T) {
	x := lin(5, term("a", 1), term("b", 2), term("c", 3))
	for _, at := range []map[string]uint32{nil, {}, {"a": 1}, {"a": 1, "b": 1}, {"b": 1, "c": 1}, {"a": 1, "c": 1}, {"A": 1, "B": 1, "C": 1, "": 1}} {
		if n, ok := expr.Value(x, at); n != 0 || ok {
			t.Errorf("Value with %v: %d, %t", at, n, ok)
		}
	}
}

// P4.5

func TestText(t *testing.T) {
	for want, x := range map[string]api.Lin{
		"0": lin(0), "1": lin(1), "4294967295": lin(most), "2147483648": lin(1 << 31), "10": lin(10),
		"a": lin(0, term("a", 1)), "a+1": lin(1, term("a", 1)), "2*a": lin(0, term("a", 2)), "2*a+3": lin(3, term("a", 2)),
		"4294967295*a": lin(0, term("a", most)), "a+b": lin(0, term("a", 1), term("b", 1)), "10*a+b+4294967295*c+7": lin(7, term("a", 10), term("b", 1), term("c", most)),
		"B+_+r8": lin(0, term("B", 1), term("_", 1), term("r8", 1)),
	} {
		if s := expr.Text(x); s != want {
			t.Errorf("Text(%+v): %q, not %q", x, s, want)
		}
	}
	if s := expr.Text(api.Lin{Terms: []api.Term{}}); s != "0" {
		t.Errorf("Text of no terms: %q", s)
	}
}

// P4.6

// drawn answers a right Lin: few names, so that they meet, and coefficients that pass 2^32 together.
func drawn(r *rand.Rand) api.Lin {
	edges := []uint32{1, 2, 3, 1 << 16, 1 << 31, most, most - 1, 0x55555555}
	x := lin(edges[r.Intn(len(edges))] * uint32(r.Intn(2)))
	for _, s := range []string{"A", "_", "a", "a1", "b", "r8"} {
		if r.Intn(2) == 0 {
			x.Terms = append(x.Terms, term(s, edges[r.Intn(len(edges))]))
		}
	}
	return x
}

func TestTextIsReadBack(t *testing.T) {
	r := rand.New(rand.NewSource(4))
	for range 3000 {
		x := drawn(r)
		got, why := expr.Parse(tokens(t, expr.Text(x)))
		if !one(got, x) || why != api.OK {
			t.Fatalf("%+v, told as %q, is read as %+v, %v", x, expr.Text(x), got, why)
		}
	}
}

func TestHowSumsAndProductsGo(t *testing.T) {
	r := rand.New(rand.NewSource(5))
	at := map[string]uint32{"A": 3, "_": most, "a": 1 << 31, "a1": 77, "b": 0, "r8": 0xdeadbeef}
	for range 3000 {
		x, y, z := drawn(r), drawn(r), drawn(r)
		n := r.Uint32() >> r.Intn(33)
		sum := expr.Add(x, y)
		if !expr.Right(sum) || !one(sum, expr.Add(y, x)) || !one(expr.Add(sum, z), expr.Add(x, expr.Add(y, z))) {
			t.Fatalf("Add of %+v, %+v, %+v", x, y, z)
		}
		product := expr.Times(sum, n)
		if !expr.Right(product) || !one(product, expr.Add(expr.Times(x, n), expr.Times(y, n))) {
			t.Fatalf("Times of %+v and %+v by %d", x, y, n)
		}
		a, _ := expr.Value(x, at)
		b, _ := expr.Value(y, at)
		if v, ok := expr.Value(sum, at); v != a+b || !ok {
			t.Fatalf("Value of %+v and %+v: %d, %t", x, y, v, ok)
		}
		if v, ok := expr.Value(product, at); v != n*(a+b) || !ok {
			t.Fatalf("Value of %+v: %d, %t", product, v, ok)
		}
		if !one(expr.Add(x, expr.Of(0)), x) || !one(expr.Times(x, 1), x) || !one(expr.Add(x, expr.Times(x, most)), expr.Of(0)) || !one(expr.Add(x, x), expr.Times(x, 2)) {
			t.Fatalf("%+v", x)
		}
	}
}

// R2

// roomy answers x with spare room behind its terms, and that room.
func roomy(x api.Lin) (api.Lin, []api.Term) {
	all := append(slices.Clone(x.Terms), term("spare", 1), term("spare", 2), term("spare", 3), term("spare", 4))
	return api.Lin{Terms: all[:len(x.Terms)], Const: x.Const}, all
}

func TestWhatIsHandedInStays(t *testing.T) {
	for _, c := range [][2]api.Lin{
		{lin(1), lin(2)},
		{lin(1, term("a", 1), term("b", 2)), lin(2)},
		{lin(1, term("b", 1), term("d", 2)), lin(2, term("a", 3), term("b", most), term("c", 1))},
	} {
		x, allX := roomy(c[0])
		y, allY := roomy(c[1])
		wantX, wantY := slices.Clone(allX), slices.Clone(allY)
		at := map[string]uint32{"a": 1, "b": 2}
		expr.Add(x, y)
		expr.Add(y, x)
		expr.Add(x, x)
		expr.Times(x, 1<<31)
		expr.Times(y, 0)
		expr.Same(x, y)
		expr.Value(y, at)
		expr.Text(x)
		expr.Right(y)
		if !slices.Equal(allX, wantX) || !slices.Equal(allY, wantY) || !maps.Equal(at, map[string]uint32{"a": 1, "b": 2}) {
			t.Errorf("%+v, %+v, %v", allX, allY, at)
		}
	}
}

func TestTokensStay(t *testing.T) {
	for _, s := range []string{"2*(a - 3) + b - a", "a*b", "(a", "--a+", "c+b+a"} {
		all := append(tokens(t, s), name("spare"), sign("+"), number(9))
		l := all[:len(all)-3]
		want := slices.Clone(all)
		first, firstWhy := expr.Parse(l)
		second, secondWhy := expr.Parse(slices.Clone(l))
		if !slices.Equal(all, want) || !one(first, second) || firstWhy != secondWhy {
			t.Errorf("Parse(%q): %+v, then %+v; the tokens are %+v", s, first, second, all)
		}
	}
}

// overwrite writes all that x's list holds, its spare room too.
func overwrite(x api.Lin) {
	all := x.Terms[:cap(x.Terms)]
	for i := range all {
		all[i] = term("?", 99)
	}
}

func TestAnswersAreNewMemory(t *testing.T) {
	l := tokens(t, "a+2*b+c-7")
	x, y := lin(7, term("a", 1), term("b", 2)), lin(9)
	calls := map[string]func() api.Lin{
		"Parse":                 func() api.Lin { z, _ := expr.Parse(l); return z },
		"Named":                 func() api.Lin { return expr.Named("a") },
		"Of":                    func() api.Lin { return expr.Of(3) },
		"Add":                   func() api.Lin { return expr.Add(x, x) },
		"Add of no terms":       func() api.Lin { return expr.Add(x, y) },
		"Add to no terms":       func() api.Lin { return expr.Add(y, x) },
		"Times":                 func() api.Lin { return expr.Times(x, 3) },
		"Times by 1":            func() api.Lin { return expr.Times(x, 1) },
		"Times by 0":            func() api.Lin { return expr.Times(x, 0) },
		"Times of no terms":     func() api.Lin { return expr.Times(y, 3) },
		"Add of nothing at all": func() api.Lin { return expr.Add(y, y) },
	}
	for call, f := range calls {
		first, second, want := f(), f(), f()
		overwrite(first)
		if !one(second, want) || !one(f(), want) || !one(x, lin(7, term("a", 1), term("b", 2))) {
			t.Errorf("%s: %+v, not %+v; of %+v", call, second, want, x)
		}
	}
	if !slices.Equal(l, tokens(t, "a+2*b+c-7")) {
		t.Errorf("the tokens became %+v", l)
	}
}

func TestNamesHoldOnToNoText(t *testing.T) {
	text := "some_name and more"
	part := text[:len("some_name")]
	x, _ := expr.Parse([]lex.Token{name(part)})
	for _, s := range []string{x.Terms[0].Name, expr.Named(part).Terms[0].Name, expr.Text(api.Lin{Terms: []api.Term{term(part, 1)}})} {
		if s != part || unsafe.StringData(s) == unsafe.StringData(part) {
			t.Errorf("%q lies within the text it was cut out of", s)
		}
	}
}
