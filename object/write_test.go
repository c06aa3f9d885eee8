package object_test

import (
	"fmt"
	"math"
	"slices"
	"strings"
	"testing"

	"spandrel/api"
	"spandrel/object"
	"spandrel/unit"
)

// P10.1: what is written.

func TestWriteOfTheZeroUnit(t *testing.T) {
	writes(t, api.Unit{}, "SPAN\x01\x00\x00\x00\x00\x00\x00\x00\x00")
	writes(t, api.Unit{Text: items(), Data: items(), Equs: equs(), Globals: []string{}}, "SPAN\x01\x00\x00\x00\x00\x00\x00\x00\x00")
}

// A whole object, byte for byte.
func TestWriteOfAUnitWithAllThatThereIs(t *testing.T) {
	u, err := unit.Assemble(strings.Join([]string{
		"global e", "global a",
		"a: add r1, r2", "lis r3, -2", "ldp r4, =b+258", "jz r5, a", "align 16", "pool",
		"section data", "b: word a-b, 3", "byte -1, 200", "space 65536",
		"equ e, 2*x",
	}, "\n"))
	if err != nil {
		t.Fatal(err)
	}
	writes(t, u, "SPAN\x01"+
		"\x07\x00"+
		"\x01\x01\x00a"+
		"\x02\x0e\x01\x02\x00\x00\x00\x00"+
		"\x02\x24\x03\x00\xfe\xff\xff\xff"+
		"\x02\x27\x04\x00\x00\x00\x00\x00"+"\x01\x00\x01\x00b\x01\x00\x00\x00\x02\x01\x00\x00"+
		"\x02\x2a\x05\x00\x00\x00\x00\x00"+"\x01\x00\x01\x00a\x01\x00\x00\x00\x00\x00\x00\x00"+
		"\x03\x10\x00"+
		"\x04"+
		"\x06\x00"+
		"\x01\x01\x00b"+
		"\x06\x02\x00\x01\x00a\x01\x00\x00\x00\x01\x00b\xff\xff\xff\xff\x00\x00\x00\x00"+
		"\x06\x00\x00\x03\x00\x00\x00"+
		"\x05\xff\xff"+
		"\x05\xc8\x00"+
		"\x07\x00\x00\x01\x00"+
		"\x01\x00"+
		"\x01\x00e\x01\x00\x01\x00x\x02\x00\x00\x00\x00\x00\x00\x00"+
		"\x02\x00"+
		"\x01\x00a"+
		"\x01\x00e")
}

func TestWriteOfSomeUnits(t *testing.T) {
	for _, u := range someUnits() {
		writes(t, u, bytesOf(u))
	}
}

func inText(x api.Item) api.Unit {
	return api.Unit{Text: items(x)}
}

func inData(x api.Item) api.Unit {
	return api.Unit{Data: items(x)}
}

// Each kind of item alone, with the least and the greatest number of each of its fields.
func TestItemsByteForByte(t *testing.T) {
	longest := strings.Repeat("n", api.MaxName)
	for _, c := range []struct {
		x    api.Item
		want string
	}{
		{label("a"), "\x01\x01\x00a"},
		{label("_"), "\x01\x01\x00_"},
		{label(longest), "\x01\x20\x00" + longest},
		{counted(api.Align, 1), "\x03\x01\x00"},
		{counted(api.Align, 128), "\x03\x80\x00"},
		{counted(api.Align, 256), "\x03\x00\x01"},
	} {
		writes(t, inText(c.x), begin+"\x01\x00"+c.want+"\x00\x00\x00\x00\x00\x00")
		writes(t, inData(c.x), begin+"\x00\x00\x01\x00"+c.want+"\x00\x00\x00\x00")
	}
	writes(t, inText(counted(api.Pool, 0)), begin+"\x01\x00\x04\x00\x00\x00\x00\x00\x00")
	for _, c := range []struct {
		x    api.Item
		want string
	}{
		{counted(api.Byte, -128), "\x05\x80\xff"},
		{counted(api.Byte, -1), "\x05\xff\xff"},
		{counted(api.Byte, 0), "\x05\x00\x00"},
		{counted(api.Byte, 127), "\x05\x7f\x00"},
		{counted(api.Byte, 128), "\x05\x80\x00"},
		{counted(api.Byte, 255), "\x05\xff\x00"},
		{counted(api.Space, 0), "\x07\x00\x00\x00\x00"},
		{counted(api.Space, 1), "\x07\x01\x00\x00\x00"},
		{counted(api.Space, 0x12345), "\x07\x45\x23\x01\x00"},
		{counted(api.Space, api.MaxImage), "\x07\x00\x00\x10\x00"},
		{worded(lin(0)), "\x06\x00\x00\x00\x00\x00\x00"},
		{worded(lin(0x04030201)), "\x06\x00\x00\x01\x02\x03\x04"},
		{worded(lin(math.MaxUint32)), "\x06\x00\x00\xff\xff\xff\xff"},
		{worded(lin(0, term("a", 1))), "\x06\x01\x00\x01\x00a\x01\x00\x00\x00\x00\x00\x00\x00"},
		{worded(lin(2, term("b", math.MaxUint32))), "\x06\x01\x00\x01\x00b\xff\xff\xff\xff\x02\x00\x00\x00"},
		{worded(lin(1<<31, term(longest, 1<<31))), "\x06\x01\x00\x20\x00" + longest + "\x00\x00\x00\x80\x00\x00\x00\x80"},
		{worded(lin(3, term("B", 5), term("_", 6), term("b", 7))), "\x06\x03\x00\x01\x00B\x05\x00\x00\x00\x01\x00_\x06\x00\x00\x00\x01\x00b\x07\x00\x00\x00\x03\x00\x00\x00"},
	} {
		writes(t, inData(c.x), begin+"\x00\x00\x01\x00"+c.want+"\x00\x00\x00\x00")
	}
}

// Each shape of code alone, likewise.
func TestCodeByteForByte(t *testing.T) {
	for _, c := range []struct {
		x    api.Item
		want string
	}{
		{code(opNop, 0, 0, 0), "\x02\x01\x00\x00\x00\x00\x00\x00"},
		{code(opPrint, 0, 0, 0), "\x02\x04\x00\x00\x00\x00\x00\x00"},
		{code(opPrint, 7, 0, 0), "\x02\x04\x07\x00\x00\x00\x00\x00"},
		{code(opZturn, 3, 0, 0), "\x02\x0b\x03\x00\x00\x00\x00\x00"},
		{code(opAdd, 0, 7, 0), "\x02\x0e\x00\x07\x00\x00\x00\x00"},
		{code(opAdd, 7, 0, 0), "\x02\x0e\x07\x00\x00\x00\x00\x00"},
		{code(opZmul, 3, 0, 0), "\x02\x20\x03\x00\x00\x00\x00\x00"},
		{code(opZmul, 0, 3, 0), "\x02\x20\x00\x03\x00\x00\x00\x00"},
		{code(opZre, 7, 3, 0), "\x02\x21\x07\x03\x00\x00\x00\x00"},
		{code(opZset, 3, 7, 0), "\x02\x23\x03\x07\x00\x00\x00\x00"},
		{code(opZset, 0, 0, 7), "\x02\x23\x00\x00\x07\x00\x00\x00"},
		{code(opLis, 7, 0, -128), "\x02\x24\x07\x00\x80\xff\xff\xff"},
		{code(opLis, 0, 0, -1), "\x02\x24\x00\x00\xff\xff\xff\xff"},
		{code(opLis, 0, 0, 127), "\x02\x24\x00\x00\x7f\x00\x00\x00"},
		{code(opTrap, 0, 0, 0), "\x02\x25\x00\x00\x00\x00\x00\x00"},
		{code(opTrap, 0, 0, 255), "\x02\x25\x00\x00\xff\x00\x00\x00"},
		{codeWith(opLi, 7, lin(0)), "\x02\x26\x07\x00\x00\x00\x00\x00" + "\x00\x00\x00\x00\x00\x00"},
		{codeWith(opLdp, 0, lin(0x04030201)), "\x02\x27\x00\x00\x00\x00\x00\x00" + "\x00\x00\x01\x02\x03\x04"},
		{codeWith(opJmp, 0, lin(math.MaxUint32, term("a", 1))), "\x02\x28\x00\x00\x00\x00\x00\x00" + "\x01\x00\x01\x00a\x01\x00\x00\x00\xff\xff\xff\xff"},
		{codeWith(opCall, 0, lin(0, term("a", 2), term("b", 3))), "\x02\x29\x00\x00\x00\x00\x00\x00" + "\x02\x00\x01\x00a\x02\x00\x00\x00\x01\x00b\x03\x00\x00\x00\x00\x00\x00\x00"},
		{codeWith(opJz, 7, lin(1)), "\x02\x2a\x07\x00\x00\x00\x00\x00" + "\x00\x00\x01\x00\x00\x00"},
		{codeWith(opJnz, 1, lin(1)), "\x02\x2b\x01\x00\x00\x00\x00\x00" + "\x00\x00\x01\x00\x00\x00"},
	} {
		writes(t, inText(c.x), begin+"\x01\x00"+c.want+"\x00\x00\x00\x00\x00\x00")
	}
}

// Each operation has an expression just when its shape has.
func TestEachOperation(t *testing.T) {
	for op := opNop; op <= opJnz; op++ {
		x := code(op, 0, 0, 0)
		want := "\x02" + one(op) + "\x00\x00\x00\x00\x00\x00"
		if op >= opLi {
			x.E = lin(258, term("a", 1))
			want += "\x01\x00\x01\x00a\x01\x00\x00\x00\x02\x01\x00\x00"
		}
		writes(t, inText(x), begin+"\x01\x00"+want+"\x00\x00\x00\x00\x00\x00")
	}
}

func TestEqusAndGlobalsByteForByte(t *testing.T) {
	longest := strings.Repeat("n", api.MaxName)
	writes(t, api.Unit{Equs: equs(equal("b", lin(1)), equal("a", lin(0, term("b", 2))), equal(longest, lin(0)))},
		begin+"\x00\x00\x00\x00\x03\x00"+"\x01\x00b\x00\x00\x01\x00\x00\x00"+"\x01\x00a\x01\x00\x01\x00b\x02\x00\x00\x00\x00\x00\x00\x00"+"\x20\x00"+longest+"\x00\x00\x00\x00\x00\x00"+"\x00\x00")
	writes(t, api.Unit{Text: items(label("t")), Data: items(label("d")), Equs: equs(equal("e", lin(0))), Globals: []string{"d", "e", "t"}},
		begin+"\x01\x00\x01\x01\x00t"+"\x01\x00\x01\x01\x00d"+"\x01\x00\x01\x00e\x00\x00\x00\x00\x00\x00"+"\x03\x00\x01\x00d\x01\x00e\x01\x00t")
}

// P10.1: units that are not right.

// wrongUnits answers someUnit with one wrong thing each.
func wrongUnits() map[string]api.Unit {
	out := map[string]api.Unit{}
	change := func(name string, do func(u *api.Unit)) {
		u := someUnit()
		do(&u)
		out[name] = u
	}
	// Where which item stands in someUnit.
	const (
		aLabel, aNop, aPrint, aZturn, anAdd, aZmul, aZre, aZset, aLis, aTrap = 0, 1, 2, 3, 4, 5, 6, 7, 8, 9
		aLi, anLdp, aJmp, aCall, aJz, aJnz, anAlign, aPool                   = 11, 12, 13, 14, 15, 16, 17, 18
		aWord, aByte, aSpace                                                 = 1, 3, 5
	)
	inText := func(at int, name string, do func(x *api.Item)) {
		change(fmt.Sprint("text ", at, " ", name), func(u *api.Unit) { do(&u.Text[at]) })
	}
	inData := func(at int, name string, do func(x *api.Item)) {
		change(fmt.Sprint("data ", at, " ", name), func(u *api.Unit) { do(&u.Data[at]) })
	}
	for at := range someUnit().Text {
		for _, kind := range []int{0, 8, 9, 255, 256, 257, 258, -1, math.MaxInt, math.MinInt, api.Byte, api.Word, api.Space} {
			inText(at, fmt.Sprint("kind ", kind), func(x *api.Item) { x.Kind = kind })
		}
		inText(at, "form", func(x *api.Item) { x.Inst.Form = 1 })
		inText(at, "n", func(x *api.Item) { x.N += 3 })
	}
	for at := range someUnit().Data {
		for _, kind := range []int{0, 8, 256 + api.Word, api.Code, api.Pool} {
			inData(at, fmt.Sprint("kind ", kind), func(x *api.Item) { x.Kind = kind })
		}
		inData(at, "op", func(x *api.Item) { x.Inst.Op = opNop })
	}
	for _, at := range []int{aNop, aLis, aJmp, anAlign, aPool} {
		inText(at, "name", func(x *api.Item) { x.Name = "fresh" })
	}
	for _, at := range []int{aLabel, aNop, aTrap, anAlign, aPool} {
		inText(at, "const", func(x *api.Item) { x.E.Const = 1 })
		inText(at, "terms", func(x *api.Item) { x.E.Terms = []api.Term{term("a", 1)} })
	}
	for _, name := range []string{"", "r0", "z3", "1", "a b", "a ", "é", strings.Repeat("n", api.MaxName+1), strings.Repeat("n", 1<<16+1)} {
		inText(aLabel, "label "+shorter(name), func(x *api.Item) { x.Name = name })
		inText(aLi, "term "+shorter(name), func(x *api.Item) { x.E.Terms[0].Name = name })
		inData(aWord, "term "+shorter(name), func(x *api.Item) { x.E.Terms[0].Name = name })
		change("equ "+shorter(name), func(u *api.Unit) { u.Equs[1].Name = name })
		change("equ's term "+shorter(name), func(u *api.Unit) { u.Equs[1].E.Terms[0].Name = name })
		change("global "+shorter(name), func(u *api.Unit) { u.Globals[0] = name })
	}
	for _, op := range []int{0, -1, 44, 45, 255, 256, 257, 256 + opJmp} {
		inText(aNop, fmt.Sprint("op ", op), func(x *api.Item) { x.Inst.Op = op })
		inText(aJmp, fmt.Sprint("op ", op), func(x *api.Item) { x.Inst.Op = op })
	}
	for at, most := range map[int]int{aNop: 0, aPrint: 7, aZturn: 3, anAdd: 7, aZmul: 3, aZre: 7, aZset: 3, aLis: 7, aTrap: 0, aLi: 7, anLdp: 7, aJmp: 0, aCall: 0, aJz: 7, aJnz: 7} {
		for _, a := range []int{-1, most + 1, 255, 256, 257} {
			inText(at, fmt.Sprint("a ", a), func(x *api.Item) { x.Inst.A = a })
		}
	}
	for at, most := range map[int]int{aNop: 0, aPrint: 0, aZturn: 0, anAdd: 7, aZmul: 3, aZre: 3, aZset: 7, aLis: 0, aTrap: 0, aLi: 0, anLdp: 0, aJmp: 0, aCall: 0, aJz: 0, aJnz: 0} {
		for _, b := range []int{-1, most + 1, 255, 256, 257} {
			inText(at, fmt.Sprint("b ", b), func(x *api.Item) { x.Inst.B = b })
		}
	}
	for at, n := range map[int][]int32{aNop: {-1, 1}, aPrint: {1}, aZturn: {1}, anAdd: {-1}, aZmul: {1}, aZre: {1}, aZset: {-1, 8}, aLis: {-129, 128, 255}, aTrap: {-1, 256}, aLi: {1}, anLdp: {1}, aJmp: {-1, 1}, aCall: {1}, aJz: {1}, aJnz: {1 << 30}} {
		for _, n := range n {
			inText(at, fmt.Sprint("number ", n), func(x *api.Item) { x.Inst.N = n })
		}
	}
	for at, n := range map[int][]int{aByte: {-129, 256, 65535, 65536}, aSpace: {-1, api.MaxImage + 1, math.MaxInt32, math.MinInt}} {
		for _, n := range n {
			inData(at, fmt.Sprint("number ", n), func(x *api.Item) { x.N = n })
		}
	}
	for _, n := range []int{-1, 0, 3, 255, 257, 512, 65536, 65537} {
		inText(anAlign, fmt.Sprint("number ", n), func(x *api.Item) { x.N = n })
	}
	for name, terms := range map[string][]api.Term{"falling": {term("b", 1), term("a", 1)}, "twice": {term("a", 1), term("a", 1)}, "nought": {term("a", 1), term("b", 0)}} {
		inText(anLdp, name, func(x *api.Item) { x.E.Terms = terms })
		inData(aWord, name, func(x *api.Item) { x.E.Terms = terms })
		change("equ "+name, func(u *api.Unit) { u.Equs[0].E.Terms = terms })
	}
	for _, name := range []string{"a", "b", "c", "d", "far"} {
		change("equ again "+name, func(u *api.Unit) { u.Equs[1].Name = name; u.Globals = nil })
	}
	change("label again in text", func(u *api.Unit) { u.Text[10].Name = "a" })
	change("label again in data", func(u *api.Unit) { u.Data[7].Name = "b"; u.Globals = nil })
	change("label of text in data", func(u *api.Unit) { u.Data[7].Name = "a"; u.Globals = nil })
	change("globals that fall", func(u *api.Unit) { u.Globals = []string{"d", "a"} })
	change("a global twice", func(u *api.Unit) { u.Globals = []string{"a", "a"} })
	change("a global that nobody gives", func(u *api.Unit) { u.Globals = []string{"a", "b", "q"} })
	return out
}

func TestUnitsThatAreNotRight(t *testing.T) {
	all := wrongUnits()
	if len(all) < 400 {
		t.Fatalf("%d units only", len(all))
	}
	for name, u := range all {
		if unit.Right(u) != api.ErrUnit {
			t.Fatalf("%s: Right says %v", name, unit.Right(u))
		}
		if b, why := object.Write(u); why != api.ErrUnit || len(b) != 0 {
			t.Errorf("%s: %q, %v", name, shorter(b), why)
		}
		// What would be its object, as far as bytes can hold it, is none or the object of another unit.
		agrees(t, bytesOf(u))
	}
	refusesUnit(t, api.Unit{Globals: []string{"a"}}, api.ErrUnit)
	refusesUnit(t, api.Unit{Text: items(api.Item{})}, api.ErrUnit)
	refusesUnit(t, api.Unit{Data: items(api.Item{})}, api.ErrUnit)
	refusesUnit(t, api.Unit{Equs: equs(api.Equ{})}, api.ErrUnit)
}

// The limits.

// padded answers a name of so many bytes; those of other numbers stand in the numbers' order.
func padded(n, size int) string {
	name := fmt.Sprintf("n%06d", n)
	return name + strings.Repeat("_", size-len(name))
}

// many answers so many terms, whose names have so many bytes.
func many(n, size int) []api.Term {
	var l []api.Term
	for i := range n {
		l = append(l, term(padded(i, size), uint32(i+1)))
	}
	return l
}

// holders answers units of which one Lin is e, in each place where one stands.
func holders(e api.Lin) []api.Unit {
	var l []api.Unit
	for op := opLi; op <= opJnz; op++ {
		l = append(l, inText(codeWith(op, 0, e)))
	}
	return append(l, inData(worded(e)), api.Unit{Equs: equs(equal("a", e))},
		api.Unit{Text: items(label("a"), codeWith(opJmp, 0, lin(0)), codeWith(opJmp, 0, e)), Data: items(worded(lin(3)), counted(api.Pool-1, 2)), Equs: equs(equal("b", lin(0)))},
		api.Unit{Text: items(codeWith(opJmp, 0, lin(1))), Data: items(worded(lin(1)), worded(lin(2)), worded(e), worded(lin(4)))},
		api.Unit{Text: items(codeWith(opJmp, 0, lin(1))), Data: items(worded(lin(1))), Equs: equs(equal("c", lin(0)), equal("a", e), equal("b", lin(0)))},
	)
}

func TestTheNumberOfTerms(t *testing.T) {
	most := lin(77, many(math.MaxUint16, 7)...)
	more := lin(77, many(math.MaxUint16+1, 7)...)
	for _, u := range holders(most) {
		writes(t, u, bytesOf(u))
	}
	for _, u := range holders(more) {
		// By its bytes it would be short enough.
		if size := len(bytesOf(u)); size > api.MaxObject {
			t.Fatalf("%d bytes", size)
		}
		refusesUnit(t, u, api.ErrMany)
	}
	for _, n := range []int{2 * (math.MaxUint16 + 1), math.MaxUint16 + 2} {
		refusesUnit(t, inData(worded(lin(0, many(n, 7)...))), api.ErrMany)
	}
}

func TestTheOrderOfWritesRefusals(t *testing.T) {
	manyAndLong := lin(0, many(math.MaxUint16+1, api.MaxName)...)
	long := lin(0, many(math.MaxUint16, api.MaxName)...)
	for _, u := range holders(manyAndLong) {
		refusesUnit(t, u, api.ErrMany)
	}
	for _, u := range holders(long) {
		refusesUnit(t, u, api.ErrLong)
		u.Globals = []string{"nobody"}
		refusesUnit(t, u, api.ErrUnit)
	}
	// Too long by what stands ahead of the Lin with too many terms, and too long alone behind it.
	refusesUnit(t, api.Unit{Text: items(codeWith(opJmp, 0, long)), Equs: equs(equal("a", manyAndLong))}, api.ErrMany)
	refusesUnit(t, api.Unit{Text: items(codeWith(opJmp, 0, manyAndLong)), Equs: equs(equal("a", long))}, api.ErrMany)
	// Not right, behind or ahead of too many terms.
	refusesUnit(t, api.Unit{Text: items(codeWith(opJmp, 0, manyAndLong)), Globals: []string{"a"}}, api.ErrUnit)
	refusesUnit(t, api.Unit{Text: items(label("r1"), codeWith(opJmp, 0, manyAndLong))}, api.ErrUnit)
	twice := slices.Clone(manyAndLong.Terms)
	twice[1] = twice[0]
	refusesUnit(t, inData(worded(lin(0, twice...))), api.ErrUnit)
}

// sized answers a right unit whose object has so many bytes, and most of them in that place.
func sized(size int, place func(e api.Lin) api.Unit) api.Unit {
	terms := many((size-400)/(6+api.MaxName), api.MaxName)
	left := size - len(bytesOf(place(lin(0, terms...))))
	// The bytes that are left are those of some terms more, each with a name of 7 to 32 bytes.
	for n := len(terms); left > 0; n++ {
		room := min(left, 6+api.MaxName)
		if left > room && left-room < 13 {
			room = 13
		}
		terms = append(terms, term(padded(n, room-6), 1))
		left -= room
	}
	return place(lin(0, terms...))
}

func TestTheLengthOfAnObject(t *testing.T) {
	for n, place := range []func(e api.Lin) api.Unit{
		func(e api.Lin) api.Unit { return inText(codeWith(opLdp, 1, e)) },
		func(e api.Lin) api.Unit { return inData(worded(e)) },
		func(e api.Lin) api.Unit { return api.Unit{Equs: equs(equal("a", e))} },
		func(e api.Lin) api.Unit {
			u := someUnit()
			u.Data = append(u.Data, worded(e), counted(api.Byte, 7))
			return u
		},
	} {
		for _, less := range []int{0, 1, 2} {
			u := sized(api.MaxObject-less, place)
			b := bytesOf(u)
			if len(b) != api.MaxObject-less {
				t.Fatalf("place %d: %d bytes", n, len(b))
			}
			writes(t, u, b)
		}
		for _, more := range []int{1, 2, 1000} {
			u := sized(api.MaxObject+more, place)
			b := bytesOf(u)
			if len(b) != api.MaxObject+more || unit.Right(u) != api.OK {
				t.Fatalf("place %d: %d bytes, %v", n, len(b), unit.Right(u))
			}
			refusesUnit(t, u, api.ErrLong)
			refuses(t, b, 0, api.ErrLong)
		}
	}
}

// Too long by each of the lists, with many things of few bytes.
func TestTheLengthOfAnObjectOfManyThings(t *testing.T) {
	e := lin(5, many(2, api.MaxName)...)
	var u api.Unit
	for n := range api.MaxItems {
		u.Data = append(u.Data, worded(e))
		u.Equs = append(u.Equs, equal(padded(n, 20), lin(0)))
	}
	size := len(bytesOf(u))
	if size > api.MaxObject || size+api.MaxItems*22 < api.MaxObject {
		t.Fatalf("%d bytes", size)
	}
	writes(t, u, bytesOf(u))
	for _, q := range u.Equs {
		u.Globals = append(u.Globals, q.Name)
	}
	refusesUnit(t, u, api.ErrLong)
	refuses(t, bytesOf(u), 0, api.ErrLong)
	most := (api.MaxObject - size) / 22
	u.Globals = u.Globals[:most]
	writes(t, u, bytesOf(u))
	u.Globals = u.Globals[:most+1]
	refusesUnit(t, u, api.ErrLong)
}

// One Lin, written over and over: a unit may have far more terms than an object can hold, and Write does not lay them.
func TestWriteEndsOfUnitsThatAreFarTooLong(t *testing.T) {
	e := lin(0, many(2000, 7)...)
	var u api.Unit
	for range 1000 {
		u.Text = append(u.Text, codeWith(opLi, 0, e))
	}
	refusesUnit(t, u, api.ErrLong)
}

// labels answers so many labels; their names begin with that letter.
func labels(letter string, n int) []api.Item {
	var l []api.Item
	for i := range n {
		l = append(l, label(letter+padded(i, 7)))
	}
	return l
}

func TestTheNumberOfItemsAndEqus(t *testing.T) {
	var most, more []api.Equ
	for i := range api.MaxItems + 1 {
		more = append(more, equal("e"+padded(i, 7), lin(uint32(i))))
	}
	most = more[:api.MaxItems]
	for _, text := range []int{api.MaxItems, api.MaxItems - 1, api.MaxItems / 2, 1, 0} {
		u := api.Unit{Text: labels("t", text), Data: labels("d", api.MaxItems-text), Equs: most, Globals: nil}
		writes(t, u, bytesOf(u))
		v := u
		v.Text = labels("t", text+1)
		refusesUnit(t, v, api.ErrUnit)
		v = u
		v.Data = labels("d", api.MaxItems-text+1)
		refusesUnit(t, v, api.ErrUnit)
		v = u
		v.Equs = more
		refusesUnit(t, v, api.ErrUnit)
	}
	// As many globals as there can be.
	u := api.Unit{Text: labels("t", 5), Data: labels("d", api.MaxItems-5), Equs: most}
	u.Globals = unit.Names(u)
	if len(u.Globals) != 2*api.MaxItems {
		t.Fatal(len(u.Globals))
	}
	writes(t, u, bytesOf(u))
}
