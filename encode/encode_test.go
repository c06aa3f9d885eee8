package encode_test

import (
	"bytes"
	"encoding/hex"
	"math"
	"math/rand"
	"slices"
	"strings"
	"testing"

	"spandrel/api"
	"spandrel/encode"
	"spandrel/isa"
)

// names are the operations in the order of their numbers, from 1 on.
const names = "nop halt ret print in push pop jr neg not zturn zconj " +
	"mov add sub mul div and or xor shl shr lt eq ldb ldw ldm stm " +
	"zmov zadd zsub zmul zre zim zset lis trap li ldp jmp call jz jnz"

// op answers the number of a name, by the document and not by isa.Find.
func op(t *testing.T, name string) int {
	t.Helper()
	n := slices.Index(strings.Fields(names), name) + 1
	if n == 0 {
		t.Fatalf("no operation is named %q", name)
	}
	return n
}

// octets answers the bytes that stand in s as hexadecimal digits, with or without spaces.
func octets(t *testing.T, s string) []byte {
	t.Helper()
	b, err := hex.DecodeString(strings.ReplaceAll(s, " ", ""))
	if err != nil {
		t.Fatal(err)
	}
	return b
}

// is asks for an instruction that has those bytes, alone and in a list.
func is(t *testing.T, i api.Inst, want []byte) {
	t.Helper()
	if b, why := encode.Encode(i); !bytes.Equal(b, want) || why != api.OK {
		t.Errorf("Encode(%+v): % x, %v; not % x", i, b, why, want)
	}
	allIs(t, []api.Inst{i}, want)
	if n := isa.Len(i); n != len(want) {
		t.Errorf("isa.Len(%+v): %d; the bytes are % x", i, n, want)
	}
}

// refuses asks for an instruction that is refused, alone and in a list.
func refuses(t *testing.T, i api.Inst, want api.Errno) {
	t.Helper()
	if b, why := encode.Encode(i); len(b) != 0 || why != want {
		t.Errorf("Encode(%+v): % x, %v; not %v", i, b, why, want)
	}
	allRefuses(t, []api.Inst{i}, 0, want)
}

func allIs(t *testing.T, l []api.Inst, want []byte) {
	t.Helper()
	if b, n, why := encode.All(l...); !bytes.Equal(b, want) || n != 0 || why != api.OK {
		t.Errorf("All(%.200v): % .200x, %d, %v; not % .200x", l, b, n, why, want)
	}
}

func allRefuses(t *testing.T, l []api.Inst, at int, want api.Errno) {
	t.Helper()
	if b, n, why := encode.All(l...); len(b) != 0 || n != at || why != want {
		t.Errorf("All(%.200v): % .200x, %d, %v; not %d, %v", l, b, n, why, at, want)
	}
}

// row is an instruction, its operation by its name, and its bytes.
type row struct {
	name    string
	a, b, n int
	form    int
	want    string
}

func (r row) inst(t *testing.T) api.Inst {
	t.Helper()
	return api.Inst{Op: op(t, r.name), A: r.a, B: r.b, N: int32(r.n), Form: r.form}
}

func rowsAre(t *testing.T, rows []row) {
	t.Helper()
	for _, r := range rows {
		is(t, r.inst(t), octets(t, r.want))
	}
}

// The table 'Runs' and the 'Examples'.

func TestRuns(t *testing.T) {
	rowsAre(t, []row{
		{name: "halt", want: "01"},
		{name: "mov", a: 1, b: 2, want: "10 12"},
		{name: "li", a: 3, n: -2, want: "32 03 fe ff ff ff"},
		{name: "jmp", n: -3, form: 1, want: "40 fd"},
		{name: "jz", a: 2, n: 300, form: 2, want: "47 02 2c 01"},
		{name: "zset", a: 1, b: 2, n: 3, want: "26 01 23"},
	})
	if b, n, why := encode.All(api.Inst{Op: op(t, "halt")}, api.Inst{Op: 0}); len(b) != 0 || n != 1 || why != api.ErrOp {
		t.Errorf("All(halt, {Op 0}): % x, %d, %v", b, n, why)
	}
}

func TestExamples(t *testing.T) {
	rowsAre(t, []row{
		{name: "nop", want: "00"},
		{name: "ldp", n: 4095, want: "33 00 ff 0f"},
	})
	if b, n, why := encode.All(); len(b) != 0 || n != 0 || why != api.OK {
		t.Errorf("All(): % x, %d, %v", b, n, why)
	}
}

// P6.1

// eachOperation holds every operation in each of its forms, with registers and numbers whose bytes are all unlike.
func eachOperation() []row {
	return []row{
		{name: "nop", want: "00"},
		{name: "halt", want: "01"},
		{name: "ret", want: "02"},
		{name: "print", a: 1, want: "03 01"},
		{name: "in", a: 2, want: "04 02"},
		{name: "push", a: 3, want: "05 03"},
		{name: "pop", a: 4, want: "06 04"},
		{name: "jr", a: 5, want: "07 05"},
		{name: "neg", a: 6, want: "08 06"},
		{name: "not", a: 7, want: "09 07"},
		{name: "zturn", a: 1, want: "0a 01"},
		{name: "zconj", a: 2, want: "0b 02"},
		{name: "mov", a: 2, b: 1, want: "10 21"},
		{name: "add", a: 1, b: 3, want: "11 13"},
		{name: "sub", a: 4, b: 5, want: "12 45"},
		{name: "mul", a: 5, b: 4, want: "13 54"},
		{name: "div", a: 6, b: 7, want: "14 67"},
		{name: "and", a: 7, b: 6, want: "15 76"},
		{name: "or", a: 0, b: 1, want: "16 01"},
		{name: "xor", a: 1, b: 0, want: "17 10"},
		{name: "shl", a: 2, b: 7, want: "18 27"},
		{name: "shr", a: 3, b: 6, want: "19 36"},
		{name: "lt", a: 4, b: 2, want: "1a 42"},
		{name: "eq", a: 5, b: 3, want: "1b 53"},
		{name: "ldb", a: 6, b: 0, want: "1c 60"},
		{name: "ldw", a: 7, b: 1, want: "1d 71"},
		{name: "ldm", a: 0, b: 7, want: "1e 07"},
		{name: "stm", a: 3, b: 3, want: "1f 33"},
		{name: "zmov", a: 1, b: 2, want: "20 12"},
		{name: "zadd", a: 2, b: 1, want: "21 21"},
		{name: "zsub", a: 3, b: 0, want: "22 30"},
		{name: "zmul", a: 0, b: 3, want: "23 03"},
		{name: "zre", a: 7, b: 2, want: "24 72"},
		{name: "zim", a: 6, b: 1, want: "25 61"},
		{name: "zset", a: 3, b: 6, n: 5, want: "26 03 65"},
		{name: "lis", a: 4, n: -2, want: "30 04 fe"},
		{name: "trap", n: 200, want: "31 c8"},
		{name: "li", a: 5, n: 0x12345678, want: "32 05 78 56 34 12"},
		{name: "ldp", a: 6, n: 0x0abc, want: "33 06 bc 0a"},
		{name: "jmp", n: 0x12, form: 1, want: "40 12"},
		{name: "jmp", n: 0x1234, form: 2, want: "41 34 12"},
		{name: "jmp", n: 0x12345678, form: 4, want: "42 78 56 34 12"},
		{name: "call", n: -0x12, form: 1, want: "43 ee"},
		{name: "call", n: -0x1234, form: 2, want: "44 cc ed"},
		{name: "call", n: -0x12345678, form: 4, want: "45 88 a9 cb ed"},
		{name: "jz", a: 1, n: 0x76, form: 1, want: "46 01 76"},
		{name: "jz", a: 2, n: 0x7654, form: 2, want: "47 02 54 76"},
		{name: "jz", a: 3, n: 0x76543210, form: 4, want: "48 03 10 32 54 76"},
		{name: "jnz", a: 4, n: -1, form: 1, want: "49 04 ff"},
		{name: "jnz", a: 5, n: -2, form: 2, want: "4a 05 fe ff"},
		{name: "jnz", a: 6, n: -3, form: 4, want: "4b 06 fd ff ff ff"},
	}
}

func TestEachOperation(t *testing.T) {
	rows := eachOperation()
	rowsAre(t, rows)
	have := map[string]int{}
	for _, r := range rows {
		have[r.name]++
	}
	for _, name := range strings.Fields(names) {
		want := 1
		if isa.Spans(op(t, name)) {
			want = 3
		}
		if have[name] != want {
			t.Errorf("%s stands %d times in the table, not %d", name, have[name], want)
		}
	}
}

func TestLeastAndGreatestOfEachShape(t *testing.T) {
	rowsAre(t, []row{
		{name: "print", want: "03 00"},
		{name: "print", a: 7, want: "03 07"},
		{name: "zturn", want: "0a 00"},
		{name: "zturn", a: 3, want: "0a 03"},
		{name: "add", want: "11 00"},
		{name: "add", a: 7, want: "11 70"},
		{name: "add", b: 7, want: "11 07"},
		{name: "add", a: 7, b: 7, want: "11 77"},
		{name: "zadd", want: "21 00"},
		{name: "zadd", a: 3, want: "21 30"},
		{name: "zadd", b: 3, want: "21 03"},
		{name: "zadd", a: 3, b: 3, want: "21 33"},
		{name: "zre", want: "24 00"},
		{name: "zre", a: 7, want: "24 70"},
		{name: "zre", b: 3, want: "24 03"},
		{name: "zim", a: 7, b: 3, want: "25 73"},
		{name: "zset", want: "26 00 00"},
		{name: "zset", a: 3, want: "26 03 00"},
		{name: "zset", b: 7, want: "26 00 70"},
		{name: "zset", n: 7, want: "26 00 07"},
		{name: "zset", a: 3, b: 7, n: 7, want: "26 03 77"},
		{name: "lis", n: -128, want: "30 00 80"},
		{name: "lis", a: 7, n: 127, want: "30 07 7f"},
		{name: "lis", a: 7, n: -1, want: "30 07 ff"},
		{name: "lis", a: 7, n: 0, want: "30 07 00"},
		{name: "trap", n: 0, want: "31 00"},
		{name: "trap", n: 127, want: "31 7f"},
		{name: "trap", n: 128, want: "31 80"},
		{name: "trap", n: 255, want: "31 ff"},
		{name: "li", n: math.MinInt32, want: "32 00 00 00 00 80"},
		{name: "li", a: 7, n: math.MaxInt32, want: "32 07 ff ff ff 7f"},
		{name: "li", n: 0, want: "32 00 00 00 00 00"},
		{name: "li", n: -1, want: "32 00 ff ff ff ff"},
		{name: "ldp", n: 0, want: "33 00 00 00"},
		{name: "ldp", a: 7, n: 255, want: "33 07 ff 00"},
		{name: "ldp", a: 7, n: 256, want: "33 07 00 01"},
		{name: "ldp", a: 7, n: 4095, want: "33 07 ff 0f"},
	})
}

func TestLeastAndGreatestOfEachForm(t *testing.T) {
	ends := []row{
		{n: -128, form: 1, want: "80"},
		{n: -1, form: 1, want: "ff"},
		{n: 0, form: 1, want: "00"},
		{n: 127, form: 1, want: "7f"},
		{n: -32768, form: 2, want: "00 80"},
		{n: -129, form: 2, want: "7f ff"},
		{n: -1, form: 2, want: "ff ff"},
		{n: 0, form: 2, want: "00 00"},
		{n: 128, form: 2, want: "80 00"},
		{n: 32767, form: 2, want: "ff 7f"},
		{n: math.MinInt32, form: 4, want: "00 00 00 80"},
		{n: -32769, form: 4, want: "ff 7f ff ff"},
		{n: -1, form: 4, want: "ff ff ff ff"},
		{n: 0, form: 4, want: "00 00 00 00"},
		{n: 32768, form: 4, want: "00 80 00 00"},
		{n: math.MaxInt32, form: 4, want: "ff ff ff 7f"},
	}
	firsts := map[string][]string{
		"jmp": {1: "40", 2: "41", 4: "42"}, "call": {1: "43", 2: "44", 4: "45"},
		"jz": {1: "46", 2: "47", 4: "48"}, "jnz": {1: "49", 2: "4a", 4: "4b"},
	}
	for _, e := range ends {
		for _, name := range []string{"jmp", "call"} {
			rowsAre(t, []row{{name: name, n: e.n, form: e.form, want: firsts[name][e.form] + e.want}})
		}
		for _, name := range []string{"jz", "jnz"} {
			first := firsts[name][e.form]
			rowsAre(t, []row{
				{name: name, n: e.n, form: e.form, want: first + "00" + e.want},
				{name: name, a: 7, n: e.n, form: e.form, want: first + "07" + e.want},
			})
		}
	}
}

// model is the document's P6.1, said once more, of an instruction that isa.Check takes.
func model(i api.Inst) []byte {
	// little answers n by so many bytes, the lowest first, by division and not by shifts.
	little := func(n int32, size int) []byte {
		rest := (int64(n) + 1<<32) % (1 << 32)
		var b []byte
		for range size {
			b = append(b, byte(rest%256))
			rest /= 256
		}
		return b
	}
	o := isa.Ops()[i.Op-1]
	place := map[int]byte{0: 0, 1: 0, 2: 1, 4: 2}[i.Form]
	b := []byte{o.Byte + place}
	switch o.Shape {
	case isa.Reg, isa.ZReg:
		b = append(b, byte(i.A))
	case isa.Two, isa.ZTwo, isa.Part:
		b = append(b, byte(16*i.A+i.B))
	case isa.Build:
		b = append(b, byte(i.A), byte(16*i.B)+byte(i.N))
	case isa.Small:
		b = append(append(b, byte(i.A)), little(i.N, 1)...)
	case isa.Own:
		b = append(b, little(i.N, 1)...)
	case isa.Wide:
		b = append(append(b, byte(i.A)), little(i.N, 4)...)
	case isa.Load:
		b = append(append(b, byte(i.A)), little(i.N, 2)...)
	case isa.Jump:
		b = append(b, little(i.N, i.Form)...)
	case isa.Branch:
		b = append(append(b, byte(i.A)), little(i.N, i.Form)...)
	}
	return b
}

// numbers are the ends of what the shapes and the forms hold, those beside them, and the numbers of one byte.
func numbers() []int32 {
	l := []int32{math.MinInt32, math.MinInt32 + 1, -65537, -65536, -65535, -32769, -32768, -32767, -257,
		257, 258, 511, 512, 4094, 4095, 4096, 32767, 32768, 65535, 65536, 1 << 24, math.MaxInt32 - 1, math.MaxInt32}
	for n := int32(-256); n <= 256; n++ {
		l = append(l, n)
	}
	return l
}

// every calls f with instructions of all operations, registers and forms, and of the numbers, right and wrong ones.
func every(f func(i api.Inst)) {
	l := numbers()
	for op := range len(isa.Ops()) + 2 {
		for a := -1; a <= 8; a++ {
			for b := -1; b <= 8; b++ {
				for _, form := range []int{-1, 0, 1, 2, 3, 4, 5} {
					for _, n := range l {
						f(api.Inst{Op: op, A: a, B: b, N: n, Form: form})
					}
				}
			}
		}
	}
}

func TestEncodeOfAllSmallOnes(t *testing.T) {
	taken := 0
	every(func(i api.Inst) {
		want, size := isa.Check(i), isa.Len(i)
		b, why := encode.Encode(i)
		if why != want || len(b) != size {
			t.Fatalf("Encode(%+v): % x, %v; not %v and %d bytes", i, b, why, want, size)
		}
		if why != api.OK {
			return
		}
		taken++
		if m := model(i); !bytes.Equal(b, m) {
			t.Fatalf("Encode(%+v): % x, not % x", i, b, m)
		}
	})
	if taken < 10000 {
		t.Errorf("only %d instructions were taken", taken)
	}
}

// someone answers an instruction that isa.Check takes.
func someone(r *rand.Rand) api.Inst {
	for {
		i := api.Inst{Op: 1 + r.Intn(len(isa.Ops())), A: r.Intn(8), B: r.Intn(8), N: int32(r.Uint32()) >> r.Intn(32)}
		o, _ := isa.At(i.Op)
		switch o.Shape {
		case isa.None, isa.Own, isa.Jump:
			i.A, i.B = 0, 0
		case isa.Reg, isa.ZReg, isa.Small, isa.Wide, isa.Load, isa.Branch:
			i.B = 0
		}
		if isa.Spans(i.Op) {
			i.Form = 1 << r.Intn(3)
		} else if r.Intn(2) == 0 {
			i.N = 0
		}
		if isa.Check(i) == api.OK {
			return i
		}
	}
}

func TestEncodeOfManyNumbers(t *testing.T) {
	r := rand.New(rand.NewSource(6))
	for range 200000 {
		i := someone(r)
		if b, why := encode.Encode(i); why != api.OK || !bytes.Equal(b, model(i)) {
			t.Fatalf("Encode(%+v): % x, %v; not % x", i, b, why, model(i))
		}
	}
}

func TestEncodeRefusesOperations(t *testing.T) {
	for _, n := range []int{0, -1, 44, 45, 256 + 1, 1<<16 + 1, 1<<31 - 1, -1 << 31, math.MaxInt, math.MinInt} {
		refuses(t, api.Inst{Op: n}, api.ErrOp)
		refuses(t, api.Inst{Op: n, Form: 1}, api.ErrOp)
		refuses(t, api.Inst{Op: n, A: 9, B: -1, N: math.MinInt32, Form: 3}, api.ErrOp)
	}
	refuses(t, api.Inst{}, api.ErrOp)
}

func TestEncodeRefusesRegisters(t *testing.T) {
	for _, r := range []row{
		{name: "nop", a: 1}, {name: "halt", b: 1}, {name: "ret", a: -1},
		{name: "print", a: 8}, {name: "print", a: -1}, {name: "print", b: 1},
		{name: "zturn", a: 4}, {name: "zturn", a: -1}, {name: "zconj", b: 1},
		{name: "add", a: 1, b: 9}, {name: "add", b: 8}, {name: "mov", a: 8}, {name: "mov", a: -1}, {name: "mov", b: -1},
		{name: "zmov", a: 4}, {name: "zmov", b: 4}, {name: "zmul", a: -1}, {name: "zmul", b: -1},
		{name: "zre", a: 8}, {name: "zre", b: 4}, {name: "zim", a: -1}, {name: "zim", b: -1},
		{name: "zset", a: 4}, {name: "zset", b: 8}, {name: "zset", n: 8}, {name: "zset", n: -1}, {name: "zset", n: 256},
		{name: "lis", a: 8}, {name: "lis", b: 1}, {name: "lis", a: -1},
		{name: "trap", a: 1}, {name: "trap", b: 1},
		{name: "li", a: 8}, {name: "li", b: 1}, {name: "li", a: -1},
		{name: "ldp", a: 8}, {name: "ldp", b: 1}, {name: "ldp", a: -1},
		{name: "jmp", a: 1, form: 1}, {name: "call", b: 1, form: 4},
		{name: "jz", a: 8, form: 1}, {name: "jnz", b: 1, form: 2}, {name: "jnz", a: -1, form: 4},
		{name: "mov", a: 256}, {name: "mov", b: 1 << 16}, {name: "mov", a: math.MaxInt}, {name: "mov", b: math.MinInt},
		// Of two faults the register is told.
		{name: "jmp", a: 1, n: 200, form: 1}, {name: "lis", a: 8, n: 128}, {name: "zset", n: 8, form: 1}, {name: "nop", a: 1, form: 3},
	} {
		refuses(t, r.inst(t), api.ErrReg)
	}
}

func TestEncodeRefusesFormsAndNumbers(t *testing.T) {
	for _, r := range []row{
		{name: "nop", n: 1}, {name: "nop", n: -1}, {name: "nop", form: 1}, {name: "print", n: 1}, {name: "print", form: 2},
		{name: "zturn", n: 1}, {name: "mov", n: 1}, {name: "zmov", n: 1}, {name: "zre", n: 1}, {name: "zset", form: 1}, {name: "mov", form: 4},
		{name: "lis", n: 128}, {name: "lis", n: -129}, {name: "lis", n: 255}, {name: "lis", n: 256}, {name: "lis", form: 1},
		{name: "trap", n: 256}, {name: "trap", n: -1}, {name: "trap", n: 512}, {name: "trap", form: 1},
		{name: "li", form: 4}, {name: "li", n: 1, form: -1},
		{name: "ldp", n: 4096}, {name: "ldp", n: -1}, {name: "ldp", n: 65536}, {name: "ldp", form: 2},
		{name: "jmp"}, {name: "jmp", form: 3}, {name: "jmp", form: -1}, {name: "jmp", form: 5}, {name: "jmp", form: 8},
		{name: "call", form: 256 + 1}, {name: "jz", form: math.MaxInt}, {name: "jnz", form: math.MinInt},
		{name: "jmp", n: 128, form: 1}, {name: "jmp", n: -129, form: 1}, {name: "jmp", n: 200, form: 1}, {name: "jmp", n: 256, form: 1},
		{name: "call", n: 32768, form: 2}, {name: "call", n: -32769, form: 2}, {name: "call", n: 65536, form: 2},
		{name: "jz", n: 128, form: 1}, {name: "jz", n: -129, form: 1}, {name: "jnz", n: 32768, form: 2}, {name: "jnz", n: -32769, form: 2},
	} {
		refuses(t, r.inst(t), api.ErrForm)
	}
}

// P6.2

// insts answers the instructions of the rows, and their bytes one behind the other.
func insts(t *testing.T, rows []row) ([]api.Inst, []byte) {
	t.Helper()
	var l []api.Inst
	var b []byte
	for _, r := range rows {
		l = append(l, r.inst(t))
		b = append(b, octets(t, r.want)...)
	}
	return l, b
}

func TestAllOfNone(t *testing.T) {
	allIs(t, nil, nil)
	allIs(t, []api.Inst{}, nil)
	// What stands in the spare room is not there.
	allIs(t, []api.Inst{{Op: 2}, {}}[:0], nil)
	allIs(t, []api.Inst{{Op: 2}, {}}[:1], []byte{1})
}

func TestAllOfSeveral(t *testing.T) {
	halt, mov, jmp := api.Inst{Op: op(t, "halt")}, api.Inst{Op: op(t, "mov"), A: 1, B: 2}, api.Inst{Op: op(t, "jmp"), N: -3, Form: 1}
	if b, n, why := encode.All(halt); !bytes.Equal(b, []byte{1}) || n != 0 || why != api.OK {
		t.Errorf("All(halt): % x, %d, %v", b, n, why)
	}
	if b, n, why := encode.All(jmp, halt, mov, halt); !bytes.Equal(b, octets(t, "40 fd 01 10 12 01")) || n != 0 || why != api.OK {
		t.Errorf("All(jmp, halt, mov, halt): % x, %d, %v", b, n, why)
	}
	// The same one again and again, each with its own bytes.
	allIs(t, []api.Inst{mov, mov, mov}, octets(t, "10 12 10 12 10 12"))
}

func TestAllOfEachOperation(t *testing.T) {
	l, want := insts(t, eachOperation())
	allIs(t, l, want)
	slices.Reverse(l)
	rows := eachOperation()
	slices.Reverse(rows)
	_, want = insts(t, rows)
	allIs(t, l, want)
}

func TestAllIsTheEncodingsOneBehindTheOther(t *testing.T) {
	r := rand.New(rand.NewSource(62))
	for size := range 200 {
		var l []api.Inst
		var want []byte
		for range size {
			l = append(l, someone(r))
			want = append(want, model(l[len(l)-1])...)
		}
		allIs(t, l, want)
	}
}

func TestAllOfMany(t *testing.T) {
	const many = 1 << 20
	l := make([]api.Inst, many)
	for i := range l {
		l[i] = api.Inst{Op: op(t, "li"), N: int32(i)}
	}
	b, n, why := encode.All(l...)
	if len(b) != 6*many || n != 0 || why != api.OK {
		t.Fatalf("%d bytes, %d, %v", len(b), n, why)
	}
	for _, i := range []int{0, 1, 255, 256, many / 2, many - 1} {
		if got := b[6*i : 6*i+6]; !bytes.Equal(got, model(l[i])) {
			t.Errorf("instruction %d: % x, not % x", i, got, model(l[i]))
		}
	}
	l[many-1] = api.Inst{}
	if b, n, why := encode.All(l...); len(b) != 0 || n != many-1 || why != api.ErrOp {
		t.Errorf("%d bytes, %d, %v", len(b), n, why)
	}
}

// wrong are instructions that are refused, each with its refusal.
func wrong(t *testing.T) map[api.Inst]api.Errno {
	t.Helper()
	return map[api.Inst]api.Errno{
		{}:                                    api.ErrOp,
		{Op: 44}:                              api.ErrOp,
		{Op: op(t, "add"), A: 1, B: 9}:        api.ErrReg,
		{Op: op(t, "zset"), N: 8}:             api.ErrReg,
		{Op: op(t, "jmp"), N: 200, Form: 1}:   api.ErrForm,
		{Op: op(t, "jnz"), N: 0}:              api.ErrForm,
		{Op: op(t, "lis"), A: 3, N: 128}:      api.ErrForm,
		{Op: op(t, "nop"), Form: 1}:           api.ErrForm,
		{Op: op(t, "ldp"), N: 4096}:           api.ErrForm,
		{Op: math.MinInt, A: -1, B: 9, N: -1}: api.ErrOp,
	}
}

func TestAllRefusesTheFirst(t *testing.T) {
	good, _ := insts(t, eachOperation())
	for bad, want := range wrong(t) {
		refuses(t, bad, want)
		for _, at := range []int{0, 1, len(good) / 2, len(good) - 1, len(good)} {
			l := slices.Insert(slices.Clone(good), at, bad)
			allRefuses(t, l, at, want)
			for other := range wrong(t) {
				// Behind the first refused one a second changes nothing, next to it and last.
				allRefuses(t, slices.Insert(slices.Clone(l), at+1, other), at, want)
				allRefuses(t, append(slices.Clone(l), other), at, want)
			}
		}
	}
}

// W6, as far as encode has a part in it.

func TestNoEncodingBeginsAnother(t *testing.T) {
	var l []string
	every(func(i api.Inst) {
		if b, why := encode.Encode(i); why == api.OK {
			l = append(l, string(b))
		}
	})
	r := rand.New(rand.NewSource(66))
	seen := map[api.Inst]int{}
	for range 100000 {
		// A great number that every has not gone over.
		if i := someone(r); (i.N > 65536 || i.N < -65537) && !slices.Contains(numbers(), i.N) && seen[i] == 0 {
			seen[i]++
			b, _ := encode.Encode(i)
			l = append(l, string(b))
		}
	}
	// Sorted, what begins others stands right before one of them.
	slices.Sort(l)
	for i := 1; i < len(l); i++ {
		if strings.HasPrefix(l[i], l[i-1]) {
			t.Fatalf("% x begins % x", l[i-1], l[i])
		}
	}
}

// R2

// memory is a list with its spare room.
func memory(b []byte) []byte {
	return b[:cap(b)]
}

// smear writes over a list and its spare room.
func smear(b []byte) {
	for i := range memory(b) {
		memory(b)[i] ^= 0xff
	}
}

func TestEncodeAnswersNewMemory(t *testing.T) {
	l, _ := insts(t, eachOperation())
	for _, i := range l {
		want := model(i)
		first, _ := encode.Encode(i)
		second, _ := encode.Encode(i)
		smear(first)
		_ = append(first, 0xee, 0xee)
		if !bytes.Equal(second, want) {
			t.Errorf("%+v: two answers share memory: % x", i, second)
		}
		is(t, i, want)
	}
}

func TestAllAnswersNewMemory(t *testing.T) {
	l, want := insts(t, eachOperation())
	first, _, _ := encode.All(l...)
	second, _, _ := encode.All(l...)
	one, _, _ := encode.All(l[0])
	alone, _ := encode.Encode(l[0])
	smear(first)
	_ = append(first, 0xee)
	if !bytes.Equal(second, want) || !bytes.Equal(one, model(l[0])) || !bytes.Equal(alone, model(l[0])) {
		t.Error("two answers share memory")
	}
	smear(one)
	if !bytes.Equal(alone, model(l[0])) {
		t.Error("an answer of All shares memory with one of Encode")
	}
	allIs(t, l, want)
	none, _, _ := encode.All()
	_ = append(none, 0xee)
	allIs(t, nil, nil)
}

func TestAllLeavesTheListAsItIs(t *testing.T) {
	good, want := insts(t, eachOperation())
	spare := []api.Inst{{Op: 7, A: 7}, {Op: -7, N: 7, Form: 7}}
	whole := append(slices.Clone(good), spare...)
	before := slices.Clone(whole)
	allIs(t, whole[:len(good)], want)
	if !slices.Equal(whole, before) {
		t.Error("the list or its spare room was changed")
	}
	// The last one of whole is refused, the one before it is not.
	allRefuses(t, whole, len(whole)-1, api.ErrOp)
	if !slices.Equal(whole, before) {
		t.Error("a list that was refused was changed")
	}
}

func TestAllKeepsNothing(t *testing.T) {
	l, want := insts(t, eachOperation())
	b, _, _ := encode.All(l...)
	for i := range l {
		l[i] = api.Inst{}
	}
	if !bytes.Equal(b, want) {
		t.Error("what was answered changed with the list")
	}
	allRefuses(t, l, 0, api.ErrOp)
	good, _ := insts(t, eachOperation())
	// A refused call leaves nothing behind that a later one could tell.
	allIs(t, good, want)
}
