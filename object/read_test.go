package object_test

import (
	"errors"
	"math"
	"math/rand"
	"strconv"
	"strings"
	"testing"

	"spandrel/api"
	"spandrel/object"
)

// Runs and Examples of the chapter.

func TestRuns(t *testing.T) {
	zero := written(t, api.Unit{})
	if string(zero) != "SPAN\x01\x00\x00\x00\x00\x00\x00\x00\x00" {
		t.Errorf("%q", zero)
	}
	if u := taken(t, zero); !same(u, api.Unit{}) {
		t.Errorf("%+v", u)
	}
	refuses(t, string(zero[:12]), 12, api.ErrEnd)
	for c := range 256 {
		refuses(t, string(zero)+one(c), 13, api.ErrTail)
	}
	refuses(t, "", 0, api.ErrHead)
	refuses(t, "SPAM", 3, api.ErrHead)
	if u, err := object.Read(nil); !errors.Is(err, api.ErrHead) || !same(u, api.Unit{}) {
		t.Errorf("nil: %+v, %v", u, err)
	}
}

func TestExamples(t *testing.T) {
	refusesUnit(t, api.Unit{Text: items(label("a"), label("a"))}, api.ErrUnit)
	b := written(t, someUnit())
	first, second := taken(t, b), taken(t, b)
	scribble(first)
	if !same(second, someUnit()) {
		t.Errorf("two reads of one object are one unit: %+v", second)
	}
	refuses(t, begin+"\x01\x00\x09", 7, api.ErrUnit)
	refuses(t, begin+"\x01\x00\x09\x00\x00\x00\x00\x00\x00", 7, api.ErrUnit)
	refuses(t, begin+"\x00\x00\x01\x00\x09", 9, api.ErrUnit)
}

// P10.2: the head.

func TestTheHead(t *testing.T) {
	whole := bytesOf(someUnit())
	for n := range len(begin) {
		refuses(t, begin[:n], n, api.ErrHead)
		for c := range 256 {
			if byte(c) == begin[n] {
				continue
			}
			refuses(t, begin[:n]+one(c), n, api.ErrHead)
			refuses(t, begin[:n]+one(c)+whole[n+1:], n, api.ErrHead)
			// The first of several.
			refuses(t, begin[:n]+one(c)+"\xff\xff\xff\xff\xff\xff\xff\xff", n, api.ErrHead)
		}
	}
	for _, s := range []string{"span\x01", " SPAN\x01", "XSPAN\x01", "\x00", "\x01"} {
		refuses(t, s, 0, api.ErrHead)
	}
	refuses(t, begin, 5, api.ErrEnd)
}

// P10.2: where bytes end, and what stands behind.

func TestEachBeginningOfAnObject(t *testing.T) {
	for _, u := range someUnits() {
		b := written(t, u)
		for n := range b {
			want := api.ErrEnd
			if n < len(begin) {
				want = api.ErrHead
			}
			refuses(t, string(b[:n]), n, want)
			// With the rest of it in its spare room.
			if _, err := object.Read(b[:n]); !errors.Is(err, want) {
				t.Errorf("the first %d bytes of %q: %v", n, b, err)
			}
		}
	}
}

func TestBytesBehindAnObject(t *testing.T) {
	for _, u := range someUnits() {
		b := string(written(t, u))
		for _, tail := range []string{"\x00", "\x01", "\xff", "S", "\x00\x00", begin, b, strings.Repeat("\x00", 1000)} {
			refuses(t, b+tail, len(b), api.ErrTail)
		}
		// Up to the greatest length, and with one byte more.
		refuses(t, b+strings.Repeat("\x00", api.MaxObject-len(b)), len(b), api.ErrTail)
		refuses(t, b+strings.Repeat("\x00", api.MaxObject-len(b)+1), 0, api.ErrLong)
	}
}

func TestTooLongAheadOfAllElse(t *testing.T) {
	for _, s := range []string{"", "SPAM", begin, begin + "\x01\x00\x09", begin + "\xff\xff", bytesOf(someUnit())} {
		refuses(t, s+strings.Repeat("\x00", api.MaxObject+1-len(s)), 0, api.ErrLong)
		refuses(t, s+strings.Repeat("S", 2*api.MaxObject), 0, api.ErrLong)
	}
	refuses(t, strings.Repeat("\x00", api.MaxObject), 0, api.ErrHead)
	refuses(t, begin+"\x01\x00"+strings.Repeat("\x00", api.MaxObject-7), 7, api.ErrUnit)
}

// P10.2: each refusal at its place, and with others.

// wrong is what may stand in an object in the place of a right piece; it is met when so many of its bytes are read.
type wrong struct {
	b   string
	why api.Errno
	met int
}

// piece is a part of an object, with what would be wrong there.
type piece struct {
	right  string
	wrongs []wrong
}

// notRight answers these bytes as what is no right item, equ or global, and is met when all of it is read.
func notRight(l ...string) []wrong {
	var out []wrong
	for _, b := range l {
		out = append(out, wrong{b, api.ErrUnit, len(b)})
	}
	return out
}

// noKinds answers bytes that are no Kind, with others behind them: they are met at once.
func noKinds() []wrong {
	var out []wrong
	for kind := range 256 {
		if kind < api.Label || kind > api.Space {
			out = append(out, wrong{one(kind), api.ErrUnit, 1}, wrong{one(kind) + "\x01\x00a", api.ErrUnit, 1})
		}
	}
	return out
}

// tooMany answers counts above most.
func tooMany(most int) []wrong {
	var out []wrong
	for _, n := range []int{most + 1, most + 2, most + 256, 1 << 15, math.MaxUint16} {
		out = append(out, wrong{two(n), api.ErrMany, 2})
	}
	return out
}

// noNames answers texts that are no legal names.
func noNames() []string {
	return []string{"", "r0", "r7", "z0", "z3", "1", "1a", "a b", "a ", " a", "a;", "a:", "é", "\x00", "a\n", "-", strings.Repeat("n", api.MaxName+1), strings.Repeat("n", 255), strings.Repeat("n", 300)}
}

// noLins answers what is no right Lin.
func noLins() []string {
	l := []string{
		linBytes(lin(0, term("a", 0))),
		linBytes(lin(1, term("a", 1), term("b", 0))),
		linBytes(lin(1, term("a", 1), term("a", 1))),
		linBytes(lin(1, term("b", 1), term("a", 1))),
		linBytes(lin(1, term("a", 1), term("B", 1))),
		linBytes(lin(1, term("a", 1), term("c", 1), term("b", 1))),
	}
	for _, name := range noNames() {
		l = append(l, linBytes(lin(0, term(name, 1))), linBytes(lin(0, term("A", 1), term(name, 1))))
	}
	return l
}

// behind answers each of l with head ahead of it.
func behind(head string, l []string) []string {
	var out []string
	for _, s := range l {
		out = append(out, head+s)
	}
	return out
}

// noNumbers answers instructions of an operation with a register or a number that it has not; rest stands behind each.
func noNumbers(op, a, b int, least, most int64, rest string) []string {
	var l []string
	for _, wrong := range []int{a + 1, 128, 255} {
		l = append(l, instBytes(op, wrong, 0, 0)+rest)
	}
	for _, wrong := range []int{b + 1, 128, 255} {
		l = append(l, instBytes(op, 0, wrong, 0)+rest)
	}
	for _, wrong := range []int64{least - 1, most + 1, most + 256, math.MaxInt32, math.MinInt32} {
		l = append(l, instBytes(op, 0, 0, uint32(wrong))+rest)
	}
	return l
}

func noCodes() []string {
	e := linBytes(lin(3, term("a", 1)))
	l := []string{instBytes(0, 0, 0, 0), instBytes(44, 0, 0, 0), instBytes(45, 1, 2, 3), instBytes(200, 0, 0, 0), instBytes(255, 255, 255, math.MaxUint32)}
	l = append(l, noNumbers(opNop, 0, 0, 0, 0, "")...)
	l = append(l, noNumbers(opPrint, 7, 0, 0, 0, "")...)
	l = append(l, noNumbers(opZturn, 3, 0, 0, 0, "")...)
	l = append(l, noNumbers(opAdd, 7, 7, 0, 0, "")...)
	l = append(l, noNumbers(opZmul, 3, 3, 0, 0, "")...)
	l = append(l, noNumbers(opZre, 7, 3, 0, 0, "")...)
	l = append(l, noNumbers(opZset, 3, 7, 0, 7, "")...)
	l = append(l, noNumbers(opLis, 7, 0, -128, 127, "")...)
	l = append(l, noNumbers(opTrap, 0, 0, 0, 255, "")...)
	l = append(l, noNumbers(opLi, 7, 0, 0, 0, e)...)
	l = append(l, noNumbers(opLdp, 7, 0, 0, 0, e)...)
	l = append(l, noNumbers(opJmp, 0, 0, 0, 0, e)...)
	l = append(l, noNumbers(opCall, 0, 0, 0, 0, e)...)
	l = append(l, noNumbers(opJz, 7, 0, 0, 0, e)...)
	l = append(l, noNumbers(opJnz, 7, 0, 0, 0, e)...)
	for op := opLi; op <= opJnz; op++ {
		l = append(l, behind(instBytes(op, 0, 0, 0), noLins())...)
	}
	return l
}

func noAligns() []string {
	var l []string
	for _, n := range []int{0, 3, 5, 127, 129, 255, 257, 384, 512, 1 << 15, math.MaxUint16} {
		l = append(l, "\x03"+two(n))
	}
	return l
}

// noLabels answers what no label is, where these are given ahead.
func noLabels(given ...string) []string {
	var l []string
	for _, name := range append(noNames(), given...) {
		l = append(l, "\x01"+text(name))
	}
	return l
}

// noItemsOfText answers what is right in Data only, or in neither section.
func noItemsOfText() []string {
	l := append(noAligns(), "\x05\x01\x00", "\x07\x04\x00\x00\x00", "\x06"+linBytes(lin(3)), "\x06"+linBytes(lin(3, term("a", 1))))
	return append(l, "\x05\x00\x80", "\x07\xff\xff\xff\xff")
}

// noItemsOfData answers what is right in Text only, or in neither section.
func noItemsOfData() []string {
	l := append(noAligns(), "\x04", instBytes(opNop, 0, 0, 0), instBytes(opJmp, 0, 0, 0)+linBytes(lin(3, term("a", 1))), instBytes(0, 0, 0, 0))
	for _, n := range []int{256, 257, 1<<15 - 1, 1 << 15, math.MaxUint16 + 1 - 129, math.MaxUint16 + 1 - 256} {
		l = append(l, "\x05"+two(n))
	}
	for _, n := range []uint32{api.MaxImage + 1, 1 << 21, 1 << 31, math.MaxUint32} {
		l = append(l, "\x07"+four(n))
	}
	return append(l, behind("\x06", noLins())...)
}

func noEqus(given ...string) []string {
	var l []string
	for _, name := range append(noNames(), given...) {
		l = append(l, text(name)+linBytes(lin(1)), text(name)+linBytes(lin(1, term("a", 1))))
	}
	return append(l, behind(text("fresh"), noLins())...)
}

func noGlobals(names ...string) []string {
	return each(append(noNames(), names...), text)
}

// pieces answers an object, piece by piece: of each what is right there, and what would be wrong.
func pieces() []piece {
	e := lin(2, term("a", 1), term("q", 3))
	return []piece{
		{begin, nil},
		{two(4), tooMany(api.MaxItems)},
		{itemBytes(label("a")), append(noKinds(), append(notRight(noLabels()...), append(notRight(noCodes()...), notRight(noItemsOfText()...)...)...)...)},
		{itemBytes(code(opAdd, 1, 2, 0)), append(notRight(noLabels("a")...), notRight(noCodes()...)...)},
		{itemBytes(label("c")), notRight(noLabels("a")...)},
		{itemBytes(codeWith(opJz, 1, e)), append(noKinds(), append(notRight(noCodes()...), notRight(noLabels("a", "c")...)...)...)},
		{two(3), tooMany(api.MaxItems - 4)},
		{itemBytes(label("b")), append(noKinds(), append(notRight(noLabels("a", "c")...), notRight(noItemsOfData()...)...)...)},
		{itemBytes(worded(e)), notRight(noLabels("a", "b", "c")...)},
		{itemBytes(counted(api.Byte, -1)), append(noKinds(), notRight(noItemsOfData()...)...)},
		{two(2), tooMany(api.MaxItems)},
		{equBytes(equal("f", e)), notRight(noEqus("a", "b", "c")...)},
		{equBytes(equal("e", lin(7))), notRight(noEqus("a", "b", "c", "f")...)},
		{two(3), nil},
		{text("a"), notRight(noGlobals("d", "aa", "A", "q", "fresh")...)},
		{text("c"), notRight(noGlobals("a", "A", "d", "q", "fresh")...)},
		{text("f"), notRight(noGlobals("a", "b", "c", "e0", "q", "fresh", "g")...)},
		{"", []wrong{{"\x00", api.ErrTail, 1}, {"\xff\x01", api.ErrTail, 1}}},
	}
}

// join answers the object of these pieces, but for one, and where that one begins.
func join(l []piece, but int, b string) (string, int) {
	var out strings.Builder
	at := 0
	for n, p := range l {
		if n == but {
			at = out.Len()
			out.WriteString(b)
		} else {
			out.WriteString(p.right)
		}
	}
	return out.String(), at
}

func TestThePiecesAreAnObject(t *testing.T) {
	whole, _ := join(pieces(), -1, "")
	if u := taken(t, []byte(whole)); bytesOf(u) != whole || len(u.Text) != 4 || len(u.Data) != 3 || len(u.Equs) != 2 || len(u.Globals) != 3 {
		t.Errorf("%+v", u)
	}
}

func TestEachRefusalAtItsPlace(t *testing.T) {
	l, n := pieces(), 0
	for i, p := range l {
		for _, w := range p.wrongs {
			b, at := join(l, i, w.b)
			refuses(t, b, at, w.why)
			n++
		}
	}
	if n < 1000 {
		t.Errorf("%d refusals only", n)
	}
}

// What is wrong is met when the bytes by which it is wrong are read, and not ahead of that: what ends ahead ends.
func TestARefusalAndTheEndOfBytes(t *testing.T) {
	l := pieces()
	for i, p := range l {
		for _, w := range p.wrongs {
			b, at := join(l, i, w.b)
			for n := at; n < at+len(w.b) && n < at+w.met; n++ {
				if w.why == api.ErrTail {
					continue
				}
				refuses(t, b[:n], n, api.ErrEnd)
			}
			refuses(t, b[:at+w.met], at, w.why)
			refuses(t, b[:at+w.met]+"\xff", at, w.why)
		}
	}
}

// Of two that stand against an object the left one is met.
func TestTheFirstOfTwoRefusals(t *testing.T) {
	l := pieces()
	for i, p := range l {
		for _, w := range few(p.wrongs) {
			for j := i + 1; j < len(l); j++ {
				for _, other := range few(l[j].wrongs) {
					changed := append([]piece(nil), l...)
					changed[j].right = other.b
					b, at := join(changed, i, w.b)
					refuses(t, b, at, w.why)
				}
			}
		}
	}
}

// few answers about twenty of l.
func few(l []wrong) []wrong {
	var out []wrong
	for n := 0; n < len(l); n += len(l)/20 + 1 {
		out = append(out, l[n])
	}
	return out
}

func TestCountsAboveTheirLimits(t *testing.T) {
	full := begin + counts(each(labels("t", api.MaxItems), itemBytes)...)
	refuses(t, begin+"\x01\x20", 5, api.ErrMany)
	refuses(t, begin+"\x00\x20", 7, api.ErrEnd)
	refuses(t, begin+"\x00\x00\x01\x20", 7, api.ErrMany)
	refuses(t, begin+"\x00\x00\x00\x20", 9, api.ErrEnd)
	refuses(t, begin+"\x01\x00\x04\x00\x20", 8, api.ErrMany)
	refuses(t, begin+"\x01\x00\x04\xff\x1f", 10, api.ErrEnd)
	refuses(t, begin+"\x00\x00\x00\x00\x01\x20", 9, api.ErrMany)
	refuses(t, begin+"\x00\x00\x00\x00\x00\x20", 11, api.ErrEnd)
	// Equs are not counted with the items.
	refuses(t, begin+"\x01\x00\x04\x00\x00\x00\x20", 12, api.ErrEnd)
	refuses(t, full+"\x01\x00", len(full), api.ErrMany)
	refuses(t, full+"\x00\x00\x01\x20", len(full)+2, api.ErrMany)
	refuses(t, full+"\x00\x00\x00\x20", len(full)+4, api.ErrEnd)
	// No number of globals is too great.
	refuses(t, begin+"\x00\x00\x00\x00\x00\x00\xff\xff", 13, api.ErrEnd)
	refuses(t, begin+"\x00\x00\x00\x00\x00\x00\x01\x20\x01\x00a", 13, api.ErrUnit)
	// Nor of terms.
	refuses(t, begin+"\x00\x00\x01\x00\x06\xff\xff", 12, api.ErrEnd)
	// A count of which but one byte is there.
	for _, s := range []string{"\x00", "\x01", "\xff", "\x00\x00\xff", "\x00\x00\x00\x00\xff", "\x00\x00\x00\x00\x00\x00\xff"} {
		refuses(t, begin+s, len(begin+s), api.ErrEnd)
	}
}

// Long texts are read as a whole ahead of their refusal.
func TestLongTexts(t *testing.T) {
	long := strings.Repeat("n", math.MaxUint16)
	for _, c := range []struct {
		ahead, item, rest string
	}{
		{begin + "\x01\x00", "\x01" + text(long), ""},
		{begin + "\x01\x00", instBytes(opJmp, 0, 0, 0) + "\x01\x00" + text(long), "\x01\x00\x00\x00\x00\x00\x00\x00"},
		{begin + "\x00\x00\x01\x00", "\x06\x01\x00" + text(long), "\x01\x00\x00\x00\x00\x00\x00\x00"},
		{begin + "\x00\x00\x00\x00\x01\x00", text(long), "\x00\x00\x00\x00\x00\x00"},
		{begin + "\x00\x00\x00\x00\x00\x00\x01\x00", text(long), ""},
	} {
		b := c.ahead + c.item + c.rest
		refuses(t, b, len(c.ahead), api.ErrUnit)
		refuses(t, b[:len(b)-1], len(b)-1, api.ErrEnd)
		refuses(t, c.ahead+c.item[:len(c.item)-1], len(c.ahead+c.item)-1, api.ErrEnd)
		refuses(t, c.ahead+c.item[:len(c.item)-len(long)], len(c.ahead+c.item)-len(long), api.ErrEnd)
	}
}

// P10.2 and P10.3 against the chapter said anew.

// Each byte changed to each other one.
func TestEachByteChanged(t *testing.T) {
	objects := 0
	for _, u := range someUnits() {
		b := []byte(bytesOf(u))
		agrees(t, string(b))
		for n, was := range b {
			for c := range 256 {
				if b[n] = byte(c); byte(c) != was && agrees(t, string(b)) {
					objects++
				}
			}
			b[n] = was
		}
	}
	if objects < 1000 {
		t.Errorf("%d objects only", objects)
	}
}

// Each byte left out, and each one twice.
func TestEachByteLessAndMore(t *testing.T) {
	for _, u := range someUnits() {
		b := bytesOf(u)
		for n := range len(b) {
			agrees(t, b[:n]+b[n+1:])
			agrees(t, b[:n]+b[n:n+1]+b[n:])
			agrees(t, b[:n]+"\x00"+b[n:])
		}
	}
}

// all hands out each text of at most so many of these letters.
func all(letters string, most int, do func(s string)) {
	var from func(head string)
	from = func(head string) {
		do(head)
		if len(head) == most {
			return
		}
		for n := range len(letters) {
			from(head + letters[n:n+1])
		}
	}
	from("")
}

func TestAllShortObjects(t *testing.T) {
	all("\x00\x01\x03\x04a", 7, func(s string) { agrees(t, begin+s) })
	all("\x00\x01\x04a", 5, func(s string) {
		// Two labels, and three globals at most behind them.
		agrees(t, begin+"\x02\x00\x01\x01\x00a\x01\x01\x00b\x00\x00\x00\x00"+s)
		agrees(t, begin+"\x01\x00\x01\x01\x00b"+s)
	})
}

// Objects of lists of these things: most have something wrong, some are right.
func TestObjectsOfAllFewThings(t *testing.T) {
	texts := []string{itemBytes(label("a")), itemBytes(label("b")), itemBytes(code(opLis, 1, 0, -1)), itemBytes(codeWith(opJmp, 0, lin(1, term("a", 1)))), itemBytes(counted(api.Byte, 1))}
	datas := []string{itemBytes(label("a")), itemBytes(label("c")), itemBytes(counted(api.Byte, 255)), itemBytes(counted(api.Pool, 0))}
	equations := []string{equBytes(equal("b", lin(1))), equBytes(equal("d", lin(1, term("d", 1)))), equBytes(equal("e", lin(1, term("d", 0))))}
	globals := []string{text("a"), text("b"), text("d")}
	units := 0
	fewOf(texts, 2, func(x []string) {
		fewOf(datas, 2, func(y []string) {
			fewOf(equations, 2, func(z []string) {
				fewOf(globals, 3, func(g []string) {
					if agrees(t, begin+counts(x...)+counts(y...)+counts(z...)+counts(g...)) {
						units++
					}
				})
			})
		})
	})
	if units < 1000 {
		t.Errorf("%d units only", units)
	}
}

// fewOf hands out each list of at most so many of l.
func fewOf(l []string, most int, do func([]string)) {
	var from func(head []string)
	from = func(head []string) {
		do(head)
		if len(head) == most {
			return
		}
		for _, x := range l {
			from(append(head[:len(head):len(head)], x))
		}
	}
	from(nil)
}

// drawn answers a unit at random, the same at each run; it is right.
func drawn(r *rand.Rand) api.Unit {
	var u api.Unit
	var names []string
	fresh := func() string {
		names = append(names, "_Aay"[r.Intn(4):][:1]+strconv.Itoa(len(names)))
		return names[len(names)-1]
	}
	e := func() api.Lin {
		x := lin(r.Uint32() >> r.Intn(32))
		for n := range r.Intn(4) {
			x.Terms = append(x.Terms, term("t"+strconv.Itoa(n), 1+r.Uint32()>>(1+r.Intn(30))))
		}
		return x
	}
	for range r.Intn(8) {
		u.Text = append(u.Text, []api.Item{
			label(fresh()), code(1+r.Intn(3), 0, 0, 0), code(opAdd, r.Intn(8), r.Intn(8), 0), code(opZset, r.Intn(4), r.Intn(8), r.Int31n(8)),
			code(opLis, r.Intn(8), 0, r.Int31n(256)-128), code(opTrap, 0, 0, r.Int31n(256)), codeWith(opLi+r.Intn(2), r.Intn(8), e()),
			codeWith(opJmp+r.Intn(2), 0, e()), codeWith(opJz+r.Intn(2), r.Intn(8), e()), counted(api.Align, 1<<r.Intn(9)), counted(api.Pool, 0),
		}[r.Intn(11)])
	}
	for range r.Intn(6) {
		u.Data = append(u.Data, []api.Item{
			label(fresh()), counted(api.Align, 1<<r.Intn(9)), counted(api.Byte, r.Intn(384)-128), worded(e()), counted(api.Space, r.Intn(api.MaxImage+1)),
		}[r.Intn(5)])
	}
	for range r.Intn(4) {
		u.Equs = append(u.Equs, equal(fresh(), e()))
	}
	for _, name := range given(u) {
		if r.Intn(2) == 0 {
			u.Globals = append(u.Globals, name)
		}
	}
	return u
}

func TestDrawnUnits(t *testing.T) {
	r := rand.New(rand.NewSource(10))
	for range 5000 {
		u := drawn(r)
		b := bytesOf(u)
		writes(t, u, b)
		changed := []byte(b)
		for range 1 + r.Intn(3) {
			changed[r.Intn(len(changed))] ^= 1 << r.Intn(8)
		}
		agrees(t, string(changed))
		agrees(t, b[:r.Intn(len(b))]+b[r.Intn(len(b)):])
	}
}

// Bytes without any order behind the head.
func TestDrawnBytes(t *testing.T) {
	r := rand.New(rand.NewSource(11))
	for range 20000 {
		b := make([]byte, r.Intn(40))
		for n := range b {
			// Small ones mostly, so that counts and kinds are met.
			b[n] = byte(r.Intn(256) >> r.Intn(9))
		}
		agrees(t, string(b))
		agrees(t, begin+string(b))
	}
}
