package lex_test

import (
	"slices"
	"strconv"
	"strings"
	"testing"

	"spandrel/api"
	"spandrel/lex"
)

const (
	lower   = "abcdefghijklmnopqrstuvwxyz"
	upper   = "ABCDEFGHIJKLMNOPQRSTUVWXYZ"
	digits  = "0123456789"
	word    = lower + upper + digits + "_"
	signs   = ":,()+-*="
	blanks  = "\t\r "
	starter = word + signs + "'"
)

func name(s string, at int) lex.Token {
	return lex.Token{Kind: lex.Name, Text: s, At: at}
}

func sign(s string, at int) lex.Token {
	return lex.Token{Kind: lex.Sign, Text: s, At: at}
}

func number(s string, n uint32, at int) lex.Token {
	return lex.Token{Kind: lex.Number, Text: s, N: n, At: at}
}

func takes(t *testing.T, s string, want ...lex.Token) {
	t.Helper()
	got, at, why := lex.Tokens(s)
	if !slices.Equal(got, want) || at != 0 || why != api.OK {
		t.Errorf("Tokens(%q): %+v, %d, %v; not %+v", s, got, at, why, want)
	}
}

func refuses(t *testing.T, s string, want int) {
	t.Helper()
	got, at, why := lex.Tokens(s)
	if len(got) != 0 || at != want || why != api.ErrSyntax {
		t.Errorf("Tokens(%q): %+v, %d, %v; not refused at %d", s, got, at, why, want)
	}
}

// mixed are lines of many tokens, with blanks and without.
var mixed = []string{
	"a: jmp b+0x1f ; x",
	"a:jmp b+0x1f;x",
	"\t loop: add r1 , r2\r",
	"x=';';", "1+2*(3-y)", "'a'b'c'1'd'_", "1'2'3", "(a)b:c,d", "-1--1",
	"a\tb\rc d", "_=_", "0x0 0 '0' _0", "equ k = 4294967295*(0xffffffff)", "", ";", " ", "word '~', ' '",
}

func TestKindsAreOneToThree(t *testing.T) {
	if lex.Name != 1 || lex.Number != 2 || lex.Sign != 3 {
		t.Errorf("%d, %d, %d", lex.Name, lex.Number, lex.Sign)
	}
}

// The table 'Runs' and the 'Examples'.

func TestRuns(t *testing.T) {
	takes(t, "a: jmp b+0x1f ; x", name("a", 0), sign(":", 1), name("jmp", 3), name("b", 7), sign("+", 8), number("0x1f", 31, 9))
	takes(t, "' '", number("' '", 32, 0))
	for _, s := range []string{"'''", "007", "0x", "4294967296", "1a"} {
		refuses(t, s, 0)
	}
	refuses(t, "a $", 2)
	for s, want := range map[string]bool{"r7": false, "r8": true, "_": true} {
		if lex.Legal(s) != want {
			t.Errorf("Legal(%q): %t", s, !want)
		}
	}
}

func TestExamples(t *testing.T) {
	refuses(t, "\n", 0)
	refuses(t, "a\nb", 1)
	takes(t, "-1", sign("-", 0), number("1", 1, 1))
	takes(t, "; a remark: of $ and \n and '")
}

// P2.1

func TestBlanksStandBetweenTokens(t *testing.T) {
	for _, s := range []string{"", " ", "\t", "\r", " \t\r\r\t "} {
		takes(t, s)
	}
	for _, c := range blanks {
		b := string(c)
		takes(t, b+"a"+b+b+"1"+b, name("a", 1), number("1", 1, 4))
	}
	takes(t, "a \t\r b", name("a", 0), name("b", 5))
}

func TestOtherBytesAreNoBlanks(t *testing.T) {
	for c := range 256 {
		b := string([]byte{byte(c)})
		if strings.Contains(starter+blanks+";", b) {
			continue
		}
		refuses(t, b, 0)
		refuses(t, " \t"+b, 2)
		refuses(t, "a"+b, 1)
		refuses(t, "1"+b, 1)
		refuses(t, ":"+b+"a", 1)
		refuses(t, "'a'"+b, 3)
	}
}

func TestARemarkIsTheRest(t *testing.T) {
	for _, rest := range []string{"", "x", " a: $", ";;", "\n", "\x00\xff", "'", "007"} {
		takes(t, ";"+rest)
		takes(t, " \t;"+rest)
		takes(t, "a;"+rest, name("a", 0))
		takes(t, "1;"+rest, number("1", 1, 0))
		takes(t, "0x1;"+rest, number("0x1", 1, 0))
		takes(t, "0;"+rest, number("0", 0, 0))
		takes(t, "' ';"+rest, number("' '", 32, 0))
		takes(t, ",;"+rest, sign(",", 0))
	}
}

func TestARemarkBeginsWhereATokenCould(t *testing.T) {
	takes(t, "';'", number("';'", 59, 0))
	takes(t, "';';", number("';'", 59, 0))
	takes(t, "a';'b", name("a", 0), number("';'", 59, 1), name("b", 4))
	refuses(t, "';", 0)
	refuses(t, "'; x", 0)
	refuses(t, "0x;", 0)
	refuses(t, "$;", 0)
}

func TestANameIsAsLongAsCanBe(t *testing.T) {
	for _, first := range lower + upper + "_" {
		takes(t, string(first), name(string(first), 0))
		for _, next := range word {
			s := string(first) + string(next)
			takes(t, s+"+"+s, name(s, 0), sign("+", 2), name(s, 3))
		}
	}
	takes(t, "r0 z3 _0 A_9", name("r0", 0), name("z3", 3), name("_0", 6), name("A_9", 9))
	takes(t, "a'b'", name("a", 0), number("'b'", 98, 1))
}

func TestANameHas32BytesAtMost(t *testing.T) {
	for _, c := range []string{"a", "Z", "_"} {
		for _, size := range []int{1, 2, 31, 32} {
			s := strings.Repeat(c, size)
			takes(t, s, name(s, 0))
			takes(t, " "+s+":", name(s, 1), sign(":", 1+size))
		}
		for _, size := range []int{33, 34, 64, 1000} {
			s := strings.Repeat(c, size)
			refuses(t, s, 0)
			refuses(t, "ab, "+s+" $", 4)
		}
	}
	s := "a" + strings.Repeat("1", 31)
	takes(t, s, name(s, 0))
	refuses(t, s+"1", 0)
	refuses(t, s+"_", 0)
	takes(t, s+" b", name(s, 0), name("b", 33))
}

func TestNumbersOfDigits(t *testing.T) {
	for _, n := range []uint64{0, 1, 9, 10, 19, 99, 100, 255, 65536, 1<<31 - 1, 1 << 31, 1000000000, 4000000000, 4294967289, 1<<32 - 2, 1<<32 - 1} {
		s := strconv.FormatUint(n, 10)
		takes(t, s, number(s, uint32(n), 0))
		takes(t, " ("+s+")", sign("(", 1), number(s, uint32(n), 2), sign(")", 2+len(s)))
	}
	for _, s := range []string{"4294967296", "4294967297", "4294967300", "5000000000", "8589934592", "9999999999", "10000000000", "18446744073709551615", "18446744073709551616", "18446744073709551617", "42949672960", strings.Repeat("9", 400), "1" + strings.Repeat("0", 64)} {
		refuses(t, s, 0)
		refuses(t, "a, "+s, 3)
	}
}

func TestNoNoughtsAhead(t *testing.T) {
	takes(t, "0", number("0", 0, 0))
	takes(t, "0 0", number("0", 0, 0), number("0", 0, 2))
	takes(t, "10", number("10", 10, 0))
	takes(t, "0+", number("0", 0, 0), sign("+", 1))
	for _, s := range []string{"00", "01", "09", "007", "000", "00x1", "01a"} {
		refuses(t, s, 0)
		refuses(t, "- "+s, 2)
	}
}

func TestNumbersOfHexDigits(t *testing.T) {
	for i, c := range digits + "abcdef" {
		s := "0x" + string(c)
		takes(t, s, number(s, uint32(i), 0))
		full := "0x" + strings.Repeat(string(c), 8)
		takes(t, full, number(full, uint32(i)*0x11111111, 0))
		refuses(t, full+string(c), 0)
	}
	for _, c := range []struct {
		s string
		n uint32
	}{{"0x1f", 31}, {"0x00000001", 1}, {"0x0", 0}, {"0x00000000", 0}, {"0x007", 7}, {"0xffffffff", 1<<32 - 1}, {"0x89abcdef", 0x89abcdef}, {"0x01234567", 0x01234567}, {"0x10", 16}} {
		takes(t, c.s, number(c.s, c.n, 0))
		takes(t, c.s+","+c.s, number(c.s, c.n, 0), sign(",", len(c.s)), number(c.s, c.n, len(c.s)+1))
	}
	for _, s := range []string{"0x", "0x ", "0x+1", "0xg", "0xG", "0xA", "0xF", "0x1F", "0x1g", "0x_", "0x1_", "0X1", "0X", "0xx1", "0x123456789", "0x000000000", "0x00000000g", "0x00000001_", "0x'", "0x\x00"} {
		refuses(t, s, 0)
		refuses(t, ": "+s, 2)
	}
}

func TestNumbersOfOneByte(t *testing.T) {
	for c := range 256 {
		s := "'" + string([]byte{byte(c)}) + "'"
		if c < 0x20 || c > 0x7e || c == '\'' {
			refuses(t, s, 0)
			refuses(t, "a: "+s, 3)
			continue
		}
		takes(t, s, number(s, uint32(c), 0))
		takes(t, "a: "+s+s, name("a", 0), sign(":", 1), number(s, uint32(c), 3), number(s, uint32(c), 6))
	}
	for _, s := range []string{"'", "''", "'a", "'a ", "'ab", "'ab'", "'a\"", "''a'", "''''", "' ", "'é'"} {
		refuses(t, s, 0)
		refuses(t, "1 "+s, 2)
	}
	refuses(t, "'a''", 3)
	refuses(t, "'a'b'", 4)
}

func TestNoWordStandsDirectlyBehindANumber(t *testing.T) {
	for _, c := range word {
		for _, s := range []string{"0", "1", "42", "0x1", "0x12345678", "4294967295"} {
			isMore := strings.ContainsRune(digits, c) && s != "0" && s != "0x12345678" && s != "4294967295"
			isHex := strings.ContainsRune("abcdef", c) && s == "0x1"
			if !isMore && !isHex && s+string(c) != "0x" {
				refuses(t, s+string(c), 0)
				refuses(t, "a+"+s+string(c), 2)
			}
		}
	}
	for _, c := range lower + upper + "_" {
		takes(t, "'a'"+string(c), number("'a'", 97, 0), name(string(c), 3))
	}
	for i, c := range digits {
		takes(t, "'a'"+string(c), number("'a'", 97, 0), number(string(c), uint32(i), 3))
	}
	takes(t, "1'a'", number("1", 1, 0), number("'a'", 97, 1))
	takes(t, "0x1'a'", number("0x1", 1, 0), number("'a'", 97, 3))
}

func TestSignsAreOneByteEach(t *testing.T) {
	for i, c := range signs {
		s := string(c)
		takes(t, s, sign(s, 0))
		takes(t, s+s, sign(s, 0), sign(s, 1))
		takes(t, "a"+s+"1"+s, name("a", 0), sign(s, 1), number("1", 1, 2), sign(s, 3))
		other := string(signs[(i+1)%len(signs)])
		takes(t, s+other, sign(s, 0), sign(other, 1))
	}
	for _, s := range strings.Split("! \" # $ % & . / < > ? @ [ \\ ] ^ ` { | } ~", " ") {
		refuses(t, s, 0)
		refuses(t, "a"+s, 1)
	}
}

func TestTheFirstFaultIsTold(t *testing.T) {
	refuses(t, "a $ 007", 2)
	refuses(t, "a 007 $", 2)
	refuses(t, "a: b, 0x, '", 6)
	refuses(t, strings.Repeat("a ", 500)+"?"+strings.Repeat("$", 9), 1000)
	refuses(t, "a 1b 'x", 2)
}

func TestLongLines(t *testing.T) {
	n := 20000
	s := strings.Repeat("ab,1 ", n)
	got, at, why := lex.Tokens(s)
	if len(got) != 3*n || at != 0 || why != api.OK {
		t.Fatalf("%d tokens, %d, %v", len(got), at, why)
	}
	if last := got[len(got)-1]; last != number("1", 1, len(s)-2) {
		t.Errorf("the last one: %+v", last)
	}
}

// P2.2

func TestLegal(t *testing.T) {
	for _, s := range []string{"a", "Z", "_", "__", "a1", "r8", "r9", "z4", "z9", "r", "z", "R0", "Z0", "r00", "r07", "r10", "z00", "z10", "r_", "ra", "x0", "jmp", strings.Repeat("a", 32), "r0" + strings.Repeat("0", 30)} {
		if !lex.Legal(s) {
			t.Errorf("Legal(%q): false", s)
		}
	}
	for _, s := range []string{"", " ", ";", "a;", "a ", " a", "\ta", "a\r", "a b", "a:", "1", "1a", "0", "0x1", "'a'", "+", ":", "$", "a$", "a\n", "a\x00", "é", "aé", "a b", strings.Repeat("a", 33), strings.Repeat("a", 32) + " ", strings.Repeat("a", 100)} {
		if lex.Legal(s) {
			t.Errorf("Legal(%q): true", s)
		}
	}
	for _, s := range []string{"r0", "r1", "r2", "r3", "r4", "r5", "r6", "r7", "z0", "z1", "z2", "z3"} {
		if lex.Legal(s) {
			t.Errorf("Legal(%q): true", s)
		}
	}
}

func TestRegister(t *testing.T) {
	for n := range 10 {
		tells(t, "r"+strconv.Itoa(n), n, false, n <= 7)
		tells(t, "z"+strconv.Itoa(n), n, true, n <= 3)
	}
	for _, s := range []string{"", "r", "z", "r/", "r:", "z/", "z4", "r-", "r ", " r0", "r0 ", "r00", "r07", "r10", "r77", "z00", "z33", "R0", "Z0", "x1", "q0", "s0", "y0", "{0", "0r", "ra", "00", "r0:", "r\x00", "r\xff", "r0\x00"} {
		tells(t, s, 0, false, false)
	}
}

func tells(t *testing.T, s string, n int, z, ok bool) {
	t.Helper()
	if !ok {
		n, z = 0, false
	}
	if gotN, gotZ, gotOk := lex.Register(s); gotN != n || gotZ != z || gotOk != ok {
		t.Errorf("Register(%q): %d, %t, %t", s, gotN, gotZ, gotOk)
	}
}

// P2.3

// follows holds the tokens of a line against the line, and against those of the line that they are put together to.
func follows(t *testing.T, s string) {
	t.Helper()
	tokens, _, why := lex.Tokens(s)
	if why != api.OK {
		return
	}
	end := 0
	texts := make([]string, len(tokens))
	for i, token := range tokens {
		if token.At < end || !strings.HasPrefix(s[token.At:], token.Text) || token.Text == "" {
			t.Fatalf("%q: %+v behind %d", s, token, end)
		}
		if between := s[end:token.At]; strings.Trim(between, blanks) != "" {
			t.Errorf("%q: %q stands ahead of %+v", s, between, token)
		}
		end = token.At + len(token.Text)
		texts[i] = token.Text
	}
	if rest := strings.TrimLeft(s[end:], blanks); rest != "" && rest[0] != ';' {
		t.Errorf("%q: %q is left", s, rest)
	}
	for _, blank := range blanks {
		again, at, why := lex.Tokens(strings.Join(texts, string(blank)))
		if len(again) != len(tokens) || at != 0 || why != api.OK {
			t.Fatalf("%q put together: %+v, %d, %v", s, again, at, why)
		}
		for i := range again {
			again[i].At = tokens[i].At
		}
		if !slices.Equal(again, tokens) {
			t.Errorf("%q put together: %+v, not %+v", s, again, tokens)
		}
	}
}

func TestTokensStandInTheLine(t *testing.T) {
	for _, s := range mixed {
		follows(t, s)
	}
}

func TestTokensOfAllShortLines(t *testing.T) {
	bytes := "a_0x9fF'; :\n$"
	lines := []string{""}
	for range 4 {
		var longer []string
		for _, s := range lines {
			follows(t, s)
			for _, c := range bytes {
				longer = append(longer, s+string(c))
			}
		}
		lines = longer
	}
	for _, s := range lines {
		follows(t, s)
	}
}

// A line that ends in the midst of a token is read as far as it goes, or refused where that token begins.
func TestLinesThatEndEarly(t *testing.T) {
	s := "ab: li 10,0x2f+'c'"
	for to, want := range map[int]int{11: -1, 12: 10, 13: -1, 14: -1, 15: -1, 16: 15, 17: 15, 18: -1, 1: -1, 8: -1} {
		tokens, at, why := lex.Tokens(s[:to])
		if want < 0 && (why != api.OK || at != 0 || len(tokens) == 0) || want >= 0 && (why != api.ErrSyntax || at != want || len(tokens) != 0) {
			t.Errorf("%q: %+v, %d, %v", s[:to], tokens, at, why)
		}
	}
	takes(t, s[:11], name("ab", 0), sign(":", 2), name("li", 4), number("10", 10, 7), sign(",", 9), number("0", 0, 10))
	takes(t, s[:1], name("a", 0))
	takes(t, s[:8], name("ab", 0), sign(":", 2), name("li", 4), number("1", 1, 7))
}

// R2

func TestEachAnswerIsNewMemory(t *testing.T) {
	for _, s := range mixed {
		one, _, _ := lex.Tokens(s)
		other, _, _ := lex.Tokens(s)
		want := slices.Clone(other)
		whole := one[:cap(one)]
		for i := range whole {
			whole[i] = lex.Token{Kind: 9, Text: "other", N: 9, At: 9}
		}
		if !slices.Equal(other, want) {
			t.Errorf("%q: two answers share memory", s)
		}
		if third, _, _ := lex.Tokens(s); !slices.Equal(third, want) {
			t.Errorf("%q: an answer is kept", s)
		}
	}
}
