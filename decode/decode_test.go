package decode_test

import (
	"bytes"
	"encoding/hex"
	"fmt"
	"math"
	"math/rand"
	"slices"
	"strconv"
	"strings"
	"testing"

	"spandrel/api"
	"spandrel/decode"
	"spandrel/encode"
	"spandrel/isa"
)

// The document's encodings: the operations in the order of their numbers, each with its first byte for every form,
// and what the bytes behind that one are. r and z are a register in a byte of its own; two letters are two in one byte.
// u is a number that is never below 0, p one that is no greater than PoolReach, s one with its sign, f a displacement.
const layouts = `nop 00
halt 01
ret 02
print 03 r
in 04 r
push 05 r
pop 06 r
jr 07 r
neg 08 r
not 09 r
zturn 0a z
zconj 0b z
mov 10 rr
add 11 rr
sub 12 rr
mul 13 rr
div 14 rr
and 15 rr
or 16 rr
xor 17 rr
shl 18 rr
shr 19 rr
lt 1a rr
eq 1b rr
ldb 1c rr
ldw 1d rr
ldm 1e rr
stm 1f rr
zmov 20 zz
zadd 21 zz
zsub 22 zz
zmul 23 zz
zre 24 rz
zim 25 rz
zset 26 z rr
lis 30 r s1
trap 31 u1
li 32 r s4
ldp 33 r p2
jmp 40,41,42 f
call 43,44,45 f
jz 46,47,48 r f
jnz 49,4a,4b r f`

// layout is what a first byte tells: the operation, the form, and what the bytes behind it are.
type layout struct {
	op, form int
	parts    []string
}

// byFirst answers the layouts by their first byte. Of a byte that none has the operation is 0.
func byFirst(t *testing.T) *[256]layout {
	t.Helper()
	var l [256]layout
	for n, row := range strings.Split(layouts, "\n") {
		words := strings.Fields(row)
		firsts := strings.Split(words[1], ",")
		for place, first := range firsts {
			form := 0
			if len(firsts) > 1 {
				form = []int{1, 2, 4}[place]
			}
			l[octets(t, first)[0]] = layout{n + 1, form, words[2:]}
		}
	}
	return &l
}

// op answers the number of a name by the document, not by isa.Find.
func op(t *testing.T, name string) int {
	t.Helper()
	n := slices.IndexFunc(strings.Split(layouts, "\n"), func(row string) bool { return strings.HasPrefix(row, name+" ") }) + 1
	if n == 0 {
		t.Fatalf("no operation is named %q", name)
	}
	return n
}

func octets(t *testing.T, s string) []byte {
	t.Helper()
	b, err := hex.DecodeString(strings.Join(strings.Fields(s), ""))
	if err != nil {
		t.Fatal(err)
	}
	return b
}

// size answers how many bytes an instruction of that layout has.
func (l layout) size() int {
	n := 1
	for _, p := range l.parts {
		switch {
		case p == "f":
			n += l.form
		case len(p) == 2 && p[1] <= '9':
			n += int(p[1] - '0')
		default:
			n++
		}
	}
	return n
}

// little answers the number that b is, the lowest byte first, less 2^(8 bytes) if it is to have its sign and is great.
func little(b []byte, signed bool) int64 {
	n, all := int64(0), int64(1)
	for _, c := range b {
		n += int64(c) * all
		all *= 256
	}
	if signed && n >= all/2 {
		n -= all
	}
	return n
}

// model is the document's P7.1, said once more.
func model(l *[256]layout, b []byte, at int) (api.Inst, int, api.Errno) {
	if at < 0 || at > len(b) {
		return api.Inst{}, 0, api.ErrArg
	}
	if at == len(b) {
		return api.Inst{}, 0, api.ErrEnd
	}
	o := l[b[at]]
	if o.op == 0 {
		return api.Inst{}, 0, api.ErrOp
	}
	size := o.size()
	if at+size > len(b) {
		return api.Inst{}, 0, api.ErrEnd
	}
	i := api.Inst{Op: o.op, Form: o.form}
	why, rest := api.OK, b[at+1:at+size]
	most := map[byte]int{'r': 7, 'z': 3}
	for n, p := range o.parts {
		switch p {
		case "r", "z":
			if i.A = int(rest[0]); i.A > most[p[0]] {
				why = api.ErrReg
			}
			rest = rest[1:]
		case "rr", "zz", "rz":
			x, y := int(rest[0])/16, int(rest[0])%16
			if n == 0 {
				i.A, i.B = x, y
			} else {
				i.B, i.N = x, int32(y)
			}
			if x > most[p[0]] || y > most[p[1]] {
				why = api.ErrReg
			}
		default:
			i.N = int32(little(rest, p[0] == 's' || p[0] == 'f'))
			if p[0] == 'p' && i.N > 4095 && why == api.OK {
				why = api.ErrForm
			}
		}
	}
	if why != api.OK {
		return api.Inst{}, 0, why
	}
	return i, size, api.OK
}

func agrees(t *testing.T, l *[256]layout, b []byte, at int) {
	t.Helper()
	i, n, why := decode.Decode(b, at)
	if j, m, want := model(l, b, at); i != j || n != m || why != want {
		t.Fatalf("Decode(% x, %d): %+v, %d, %v; not %+v, %d, %v", b, at, i, n, why, j, m, want)
	}
}

// steps answers what All hands out.
func steps(b []byte, at int) []decode.Step {
	return slices.Collect(decode.All(b, at))
}

// refuses asks for a refusal, and for no instruction of All.
func refuses(t *testing.T, b []byte, at int, want api.Errno) {
	t.Helper()
	if i, n, why := decode.Decode(b, at); i != (api.Inst{}) || n != 0 || why != want {
		t.Errorf("Decode(% x, %d): %+v, %d, %v; not %v", b, at, i, n, why, want)
	}
	if l := steps(b, at); len(l) != 0 {
		t.Errorf("All(% x, %d): %+v", b, at, l)
	}
}

// refusesAnywhere asks for a refusal of bytes that stand alone or behind others, with nothing behind them.
func refusesAnywhere(t *testing.T, b []byte, want api.Errno) {
	t.Helper()
	for _, before := range []string{"", "\x00", "\xff", "\x32\x00\x01", "\x10\x12\x01\x02"} {
		refuses(t, append([]byte(before), b...), len(before), want)
	}
}

// is asks for the instruction that stands in b at at.
func is(t *testing.T, b []byte, at int, want api.Inst, size int) {
	t.Helper()
	if i, n, why := decode.Decode(b, at); i != want || n != size || why != api.OK {
		t.Errorf("Decode(% x, %d): %+v, %d, %v; not %+v, %d", b, at, i, n, why, want, size)
	}
	if l := steps(b, at); len(l) == 0 || l[0] != (decode.Step{At: at, Len: size, Inst: want}) {
		t.Errorf("All(% x, %d): %+v; not first %+v", b, at, l, want)
	}
}

// isAnywhere asks for an instruction alone, at the front, in the middle and at the end of bytes, and for ErrEnd wherever
// its last bytes are missing, though they stand in the spare room.
func isAnywhere(t *testing.T, code []byte, want api.Inst) {
	t.Helper()
	for _, before := range []string{"", "\x00", "\xff", "\x32\x00\x01", "\x10\x12\x01\x02", string(code)} {
		for _, behind := range []string{"", "\x00", "\xff", "\x80\x80\x80\x80\x80\x80\x80", string(code)} {
			b := slices.Concat([]byte(before), code, []byte(behind))
			is(t, b, len(before), want, len(code))
			for short := range code {
				refuses(t, b[:len(before)+short], len(before), api.ErrEnd)
			}
		}
	}
	for short := range code {
		refusesAnywhere(t, bytes.Clone(code[:short]), api.ErrEnd)
	}
}

// row is bytes and what they are.
type row struct {
	code []byte
	inst api.Inst
}

// rowsOf reads rows: bytes, then the operation's name, A, B, N and Form.
func rowsOf(t *testing.T, text string) []row {
	t.Helper()
	var l []row
	for s := range strings.Lines(strings.TrimSpace(text)) {
		left, right, _ := strings.Cut(s, "|")
		var name string
		var i api.Inst
		if _, err := fmt.Sscan(right, &name, &i.A, &i.B, &i.N, &i.Form); err != nil {
			t.Fatalf("%q: %v", s, err)
		}
		i.Op = op(t, name)
		l = append(l, row{octets(t, left), i})
	}
	return l
}

func rowsAre(t *testing.T, text string) {
	t.Helper()
	for _, r := range rowsOf(t, text) {
		isAnywhere(t, r.code, r.inst)
	}
}

// The table 'Runs' and the 'Examples'.

func TestRuns(t *testing.T) {
	is(t, []byte{0x10, 0x12}, 0, api.Inst{Op: op(t, "mov"), A: 1, B: 2}, 2)
	refuses(t, []byte{0x10, 0x92}, 0, api.ErrReg)
	refuses(t, []byte{0x10}, 0, api.ErrEnd)
	refuses(t, []byte{0xff}, 0, api.ErrOp)
	refuses(t, []byte{}, 0, api.ErrEnd)
	refuses(t, []byte{}, 1, api.ErrArg)
	is(t, []byte{0x41, 0xfd, 0xff}, 0, api.Inst{Op: op(t, "jmp"), N: -3, Form: 2}, 3)
}

func TestExamples(t *testing.T) {
	refuses(t, []byte{0x33, 0x00, 0x00, 0x10}, 0, api.ErrForm)
	refuses(t, []byte{0x26, 0x01, 0x83}, 0, api.ErrReg)
	nop := api.Inst{Op: op(t, "nop")}
	want := []decode.Step{{At: 0, Len: 1, Inst: nop}, {At: 1, Len: 1, Inst: nop}}
	if l := steps([]byte{0x00, 0x00, 0xff}, 0); !slices.Equal(l, want) {
		t.Errorf("All of [00 00 ff]: %+v", l)
	}
}

// P7.1

// eachOperation holds every operation in each of its forms, with registers and numbers whose bytes are all unlike.
const eachOperation = `
00                | nop   0 0 0 0
01                | halt  0 0 0 0
02                | ret   0 0 0 0
03 01             | print 1 0 0 0
04 02             | in    2 0 0 0
05 03             | push  3 0 0 0
06 04             | pop   4 0 0 0
07 05             | jr    5 0 0 0
08 06             | neg   6 0 0 0
09 07             | not   7 0 0 0
0a 01             | zturn 1 0 0 0
0b 02             | zconj 2 0 0 0
10 21             | mov   2 1 0 0
11 13             | add   1 3 0 0
12 45             | sub   4 5 0 0
13 54             | mul   5 4 0 0
14 67             | div   6 7 0 0
15 76             | and   7 6 0 0
16 01             | or    0 1 0 0
17 10             | xor   1 0 0 0
18 27             | shl   2 7 0 0
19 36             | shr   3 6 0 0
1a 42             | lt    4 2 0 0
1b 53             | eq    5 3 0 0
1c 60             | ldb   6 0 0 0
1d 71             | ldw   7 1 0 0
1e 07             | ldm   0 7 0 0
1f 34             | stm   3 4 0 0
20 12             | zmov  1 2 0 0
21 21             | zadd  2 1 0 0
22 30             | zsub  3 0 0 0
23 03             | zmul  0 3 0 0
24 72             | zre   7 2 0 0
25 61             | zim   6 1 0 0
26 03 65          | zset  3 6 5 0
30 04 fe          | lis   4 0 -2 0
31 c8             | trap  0 0 200 0
32 05 78 56 34 12 | li    5 0 0x12345678 0
33 06 bc 0a       | ldp   6 0 0x0abc 0
40 12             | jmp   0 0 0x12 1
41 34 12          | jmp   0 0 0x1234 2
42 78 56 34 12    | jmp   0 0 0x12345678 4
43 ee             | call  0 0 -0x12 1
44 cc ed          | call  0 0 -0x1234 2
45 88 a9 cb ed    | call  0 0 -0x12345678 4
46 01 76          | jz    1 0 0x76 1
47 02 54 76       | jz    2 0 0x7654 2
48 03 10 32 54 76 | jz    3 0 0x76543210 4
49 04 ff          | jnz   4 0 -1 1
4a 05 fe ff       | jnz   5 0 -2 2
4b 06 fd ff ff ff | jnz   6 0 -3 4`

func TestEachOperation(t *testing.T) {
	rowsAre(t, eachOperation)
	have := map[api.Inst]int{}
	for _, r := range rowsOf(t, eachOperation) {
		have[api.Inst{Op: r.inst.Op, Form: r.inst.Form}]++
	}
	for first, l := range byFirst(t) {
		if l.op != 0 && have[api.Inst{Op: l.op, Form: l.form}] != 1 {
			t.Errorf("the first byte %02x does not stand once in the table", first)
		}
	}
}

func TestLeastAndGreatestOfEachShape(t *testing.T) {
	rowsAre(t, `
03 00             | print 0 0 0 0
03 07             | print 7 0 0 0
0a 00             | zturn 0 0 0 0
0a 03             | zturn 3 0 0 0
11 00             | add   0 0 0 0
11 70             | add   7 0 0 0
11 07             | add   0 7 0 0
11 77             | add   7 7 0 0
21 00             | zadd  0 0 0 0
21 30             | zadd  3 0 0 0
21 03             | zadd  0 3 0 0
21 33             | zadd  3 3 0 0
24 00             | zre   0 0 0 0
24 70             | zre   7 0 0 0
24 03             | zre   0 3 0 0
25 73             | zim   7 3 0 0
26 00 00          | zset  0 0 0 0
26 03 00          | zset  3 0 0 0
26 00 70          | zset  0 7 0 0
26 00 07          | zset  0 0 7 0
26 03 77          | zset  3 7 7 0
30 00 80          | lis   0 0 -128 0
30 07 7f          | lis   7 0 127 0
30 00 ff          | lis   0 0 -1 0
30 07 00          | lis   7 0 0 0
31 00             | trap  0 0 0 0
31 7f             | trap  0 0 127 0
31 80             | trap  0 0 128 0
31 ff             | trap  0 0 255 0
32 00 00 00 00 80 | li    0 0 -2147483648 0
32 07 ff ff ff 7f | li    7 0 2147483647 0
32 00 ff ff ff ff | li    0 0 -1 0
32 07 00 00 00 00 | li    7 0 0 0
33 00 00 00       | ldp   0 0 0 0
33 07 ff 00       | ldp   7 0 255 0
33 00 00 01       | ldp   0 0 256 0
33 07 ff 0f       | ldp   7 0 4095 0`)
}

func TestLeastAndGreatestOfEachForm(t *testing.T) {
	numbers := map[int]map[string]int32{
		1: {"80": -128, "ff": -1, "00": 0, "7f": 127},
		2: {"00 80": -32768, "7f ff": -129, "ff ff": -1, "00 00": 0, "80 00": 128, "ff 7f": 32767},
		4: {"00 00 00 80": math.MinInt32, "ff 7f ff ff": -32769, "ff ff ff ff": -1, "00 00 00 00": 0,
			"00 80 00 00": 32768, "ff ff ff 7f": math.MaxInt32},
	}
	for first, l := range byFirst(t) {
		for digits, n := range numbers[l.form] {
			number := octets(t, digits)
			if len(l.parts) == 1 {
				isAnywhere(t, append([]byte{byte(first)}, number...), api.Inst{Op: l.op, N: n, Form: l.form})
				continue
			}
			for _, a := range []int{0, 7} {
				isAnywhere(t, append([]byte{byte(first), byte(a)}, number...), api.Inst{Op: l.op, A: a, N: n, Form: l.form})
			}
		}
	}
}

func TestPlacesThatAreNone(t *testing.T) {
	for _, s := range []string{"", "\x00", "\xff", "\x10\x92", "\x00\x01\x02\x03\x01"} {
		b := []byte(s)
		for _, at := range []int{-1, -2, math.MinInt, math.MinInt + 1, -1 << 31, len(b) + 1, len(b) + 2, 1<<32 + len(b), math.MaxInt, math.MaxInt - 1} {
			refuses(t, b, at, api.ErrArg)
		}
		refuses(t, b, len(b), api.ErrEnd)
	}
	for _, b := range [][]byte{nil, {}} {
		refuses(t, b, 0, api.ErrEnd)
		refuses(t, b, 1, api.ErrArg)
		refuses(t, b, -1, api.ErrArg)
	}
}

func TestFirstBytesThatNoOperationHas(t *testing.T) {
	none := 0
	for first := range 256 {
		switch {
		case first <= 0x0b, 0x10 <= first && first <= 0x26, 0x30 <= first && first <= 0x33, 0x40 <= first && first <= 0x4b:
			// With bytes of 0 behind it, each of the others is an instruction.
			if _, n, why := decode.Decode([]byte{byte(first), 0, 0, 0, 0, 0}, 0); n == 0 || why != api.OK {
				t.Errorf("%02x: %d, %v", first, n, why)
			}
			continue
		}
		none++
		for behind := range 8 {
			refusesAnywhere(t, append([]byte{byte(first)}, make([]byte, behind)...), api.ErrOp)
			refusesAnywhere(t, append([]byte{byte(first)}, bytes.Repeat([]byte{0xff}, behind)...), api.ErrOp)
		}
	}
	if none != 256-51 {
		t.Errorf("%d first bytes are none", none)
	}
}

// refusalsAre asks for the refusal of each line of bytes, whatever stands behind them if more says so.
func refusalsAre(t *testing.T, want api.Errno, more bool, text string) {
	t.Helper()
	for s := range strings.Lines(strings.TrimSpace(text)) {
		b := octets(t, s)
		refusesAnywhere(t, b, want)
		for behind := 1; more && behind < 8; behind++ {
			refusesAnywhere(t, append(bytes.Clone(b), make([]byte, behind)...), want)
			refusesAnywhere(t, append(bytes.Clone(b), bytes.Repeat([]byte{0x01}, behind)...), want)
		}
	}
}

func TestRegistersThatAreNone(t *testing.T) {
	refusalsAre(t, api.ErrReg, true, `03 08
		04 10
		05 80
		09 ff
		0a 04
		0b 07
		0a ff
		10 80
		10 08
		10 92
		11 19
		1f ff
		20 40
		20 04
		23 77
		24 80
		24 04
		25 37
		24 77
		26 04 00
		26 00 80
		26 00 08
		26 01 83
		26 07 00
		26 ff ff
		30 08 00
		30 80 7f
		32 08 00 00 00 00
		32 ff ff ff ff 7f
		33 08 00 00
		33 10 ff 0f
		46 08 00
		47 08 00 00
		48 08 00 00 00 00
		49 ff 00
		4a 80 ff 7f
		4b 09 00 00 00 80`)
}

func TestNumbersThatAreNone(t *testing.T) {
	refusalsAre(t, api.ErrForm, true, `33 00 00 10
		33 07 00 10
		33 00 01 10
		33 03 ff 1f
		33 00 ff 7f
		33 00 00 80
		33 07 ff 8f
		33 00 ff ff`)
}

// Of two refusals the one that the chapter names first.

func TestNoOperationAheadOfBytesThatEnd(t *testing.T) {
	refusalsAre(t, api.ErrOp, true, "0c\n0f\n27\n2f\n34\n3f\n4c\n80\nff")
}

func TestBytesThatEndAheadOfRegistersAndNumbers(t *testing.T) {
	refusalsAre(t, api.ErrEnd, false, `26 04
		26 ff
		30 08
		32 08
		32 08 00 00 00
		33 08
		33 08 ff
		33 08 10
		33 00 ff
		46 09
		47 08
		47 08 00
		48 ff
		48 08 00 00 00
		49 08
		4a ff ff
		4b 80 00 00 00`)
}

func TestRegistersAheadOfNumbers(t *testing.T) {
	refusalsAre(t, api.ErrReg, true, `33 08 00 10
		33 ff ff ff
		33 10 00 80`)
}

func TestPlacesAheadOfAllElse(t *testing.T) {
	for _, s := range []string{"", "ff", "10", "10 92", "33 00 00 10"} {
		b := octets(t, s)
		refuses(t, b, -1, api.ErrArg)
		refuses(t, b, len(b)+1, api.ErrArg)
	}
}

// All bytes against the model.

func TestAllShortBytes(t *testing.T) {
	l := byFirst(t)
	agrees(t, l, nil, 0)
	for first := range 256 {
		for at := -1; at <= 2; at++ {
			agrees(t, l, []byte{byte(first)}, at)
		}
		for second := range 256 {
			b := []byte{byte(first), byte(second)}
			agrees(t, l, b, 0)
			agrees(t, l, b, 1)
		}
	}
}

func TestAllInstructionsOfThreeBytes(t *testing.T) {
	l := byFirst(t)
	for first, o := range l {
		if o.op == 0 || o.size() != 3 {
			continue
		}
		for rest := range 1 << 16 {
			agrees(t, l, []byte{byte(first), byte(rest >> 8), byte(rest)}, 0)
		}
	}
}

func TestAllDistances(t *testing.T) {
	l := byFirst(t)
	for _, a := range []byte{0, 7, 8, 16, 255} {
		for n := range 1 << 16 {
			agrees(t, l, []byte{0x33, a, byte(n), byte(n >> 8)}, 0)
		}
	}
}

// some answers so many bytes, among which instructions are not rare.
func some(r *rand.Rand, size int) []byte {
	b := make([]byte, size)
	for i := range b {
		switch r.Intn(4) {
		case 0:
			b[i] = byte(r.Intn(256))
		case 1:
			b[i] = byte(r.Intn(8))
		default:
			b[i] = byte(r.Intn(0x4c))
		}
	}
	return b
}

func TestManyBytes(t *testing.T) {
	l := byFirst(t)
	r := rand.New(rand.NewSource(7))
	for range 30000 {
		b := some(r, r.Intn(16))
		for at := -1; at <= len(b)+1; at++ {
			agrees(t, l, b, at)
		}
	}
}

// P7.2

// modelSteps is the document's P7.2, said once more.
func modelSteps(l *[256]layout, b []byte, at int) []decode.Step {
	var out []decode.Step
	for {
		i, size, why := model(l, b, at)
		if why != api.OK {
			return out
		}
		out = append(out, decode.Step{At: at, Len: size, Inst: i})
		at += size
	}
}

// program answers the bytes of each operation, one behind the other, and what All must hand out of them.
func program(t *testing.T) ([]byte, []decode.Step) {
	t.Helper()
	var b []byte
	var l []decode.Step
	for _, r := range rowsOf(t, eachOperation) {
		l = append(l, decode.Step{At: len(b), Len: len(r.code), Inst: r.inst})
		b = append(b, r.code...)
	}
	return b, l
}

func TestAllOfEachOperation(t *testing.T) {
	b, want := program(t)
	if got := steps(b, 0); !slices.Equal(got, want) {
		t.Errorf("%+v, not %+v", got, want)
	}
	for n, s := range want {
		if got := steps(b, s.At); !slices.Equal(got, want[n:]) {
			t.Errorf("from %d: %+v, not %+v", s.At, got, want[n:])
		}
		if got := steps(b[:s.At], 0); !slices.Equal(got, want[:n]) {
			t.Errorf("up to %d: %+v, not %+v", s.At, got, want[:n])
		}
	}
}

func TestAllOfFewBytes(t *testing.T) {
	for _, b := range [][]byte{nil, {}, {0xff}, {0x10}, {0x10, 0x92}, {0x33, 0, 0, 0x10}} {
		if got := steps(b, 0); len(got) != 0 {
			t.Errorf("All(% x, 0): %+v", b, got)
		}
	}
	halt := api.Inst{Op: op(t, "halt")}
	if got := steps([]byte{1}, 0); !slices.Equal(got, []decode.Step{{At: 0, Len: 1, Inst: halt}}) {
		t.Errorf("All([01], 0): %+v", got)
	}
	if got := steps([]byte{1, 0x10}, 0); !slices.Equal(got, []decode.Step{{At: 0, Len: 1, Inst: halt}}) {
		t.Errorf("All([01 10], 0): %+v", got)
	}
}

func TestAllFromPlacesThatAreNone(t *testing.T) {
	b, _ := program(t)
	for _, at := range []int{math.MinInt, -len(b), -2, -1, len(b), len(b) + 1, math.MaxInt} {
		if got := steps(b, at); len(got) != 0 {
			t.Errorf("from %d: %+v", at, got)
		}
	}
}

func TestAllFromEachPlace(t *testing.T) {
	l := byFirst(t)
	whole, _ := program(t)
	for to := range len(whole) + 1 {
		for at := -1; at <= to+1; at++ {
			if got, want := steps(whole[:to], at), modelSteps(l, whole[:to], at); !slices.Equal(got, want) {
				t.Fatalf("from %d to %d: %+v, not %+v", at, to, got, want)
			}
		}
	}
	r := rand.New(rand.NewSource(72))
	for range 3000 {
		b := some(r, r.Intn(40))
		for at := -1; at <= len(b)+1; at++ {
			if got, want := steps(b, at), modelSteps(l, b, at); !slices.Equal(got, want) {
				t.Fatalf("All(% x, %d): %+v, not %+v", b, at, got, want)
			}
		}
	}
}

func TestAllEndsAtEachRefusal(t *testing.T) {
	good, want := program(t)
	for bad, why := range map[string]api.Errno{
		"ff": api.ErrOp, "0c": api.ErrOp, "10 92": api.ErrReg, "26 01 83": api.ErrReg, "33 08 00 10": api.ErrReg, "33 00 00 10": api.ErrForm,
	} {
		// What stands behind the first refused one is not handed out, nor what lies within it.
		b := slices.Concat(good, octets(t, bad), good)
		refuses(t, b, len(good), why)
		if got := steps(b, 0); !slices.Equal(got, want) {
			t.Errorf("up to %s: %+v, not %+v", bad, got, want)
		}
	}
}

func TestAllRangedOverAgain(t *testing.T) {
	b, _ := program(t)
	for at := -1; at <= len(b)+1; at++ {
		all := decode.All(b, at)
		first := slices.Collect(all)
		for range 3 {
			if again := slices.Collect(all); !slices.Equal(again, first) {
				t.Errorf("from %d: %+v, then %+v", at, first, again)
			}
		}
	}
}

func TestAllLeftEarly(t *testing.T) {
	l := byFirst(t)
	b, _ := program(t)
	for at := range len(b) {
		all, want := decode.All(b, at), modelSteps(l, b, at)
		for last := 1; last <= len(want); last++ {
			var got []decode.Step
			// Called by hand: a loop would not show a call that comes too late.
			all(func(s decode.Step) bool {
				got = append(got, s)
				return len(got) < last
			})
			if !slices.Equal(got, want[:last]) {
				t.Fatalf("from %d, left after %d: %+v", at, last, got)
			}
		}
		if got := slices.Collect(all); !slices.Equal(got, want) {
			t.Fatalf("from %d, after all that: %+v", at, got)
		}
	}
}

func TestAllLeftByBreak(t *testing.T) {
	b, want := program(t)
	all := decode.All(b, 0)
	for range 2 {
		for s := range all {
			if s != want[0] {
				t.Errorf("%+v is the first", s)
			}
			break
		}
	}
}

func TestAllWithinItself(t *testing.T) {
	all := decode.All([]byte{0x01, 0x10, 0x12, 0x02}, 0)
	var got []string
	for s := range all {
		for u := range all {
			got = append(got, strconv.Itoa(s.At)+strconv.Itoa(u.At))
			if u == s {
				break
			}
		}
	}
	if want := "00 10 11 30 31 33"; strings.Join(got, " ") != want {
		t.Errorf("%v, not %v", got, want)
	}
}

func TestAllOfMany(t *testing.T) {
	const many = 1 << 20
	n, trap := 0, op(t, "trap")
	for s := range decode.All(bytes.Repeat([]byte{0x31, 0x07}, many), 0) {
		if s != (decode.Step{At: 2 * n, Len: 2, Inst: api.Inst{Op: trap, N: 7}}) {
			t.Fatalf("step %d: %+v", n, s)
		}
		n++
	}
	if n != many {
		t.Errorf("%d steps", n)
	}
}

// P7.3 (W6)

// back asks that what an instruction is encoded to is decoded to it, wherever it stands.
func back(t *testing.T, i api.Inst, code []byte) {
	t.Helper()
	for _, b := range [][]byte{code, append(bytes.Clone(code), 0xff), append([]byte{0xff, 0x33}, code...)} {
		at := 0
		if b[0] == 0xff {
			at = 2
		}
		if j, n, why := decode.Decode(b, at); j != i || n != len(code) || n != isa.Len(i) || why != api.OK {
			t.Fatalf("Decode(% x, %d): %+v, %d, %v; not %+v", b, at, j, n, why, i)
		}
	}
}

// everyRight calls f with right instructions: all operations, registers and forms, and many numbers.
func everyRight(f func(i api.Inst, code []byte)) {
	numbers := []int32{math.MinInt32, math.MinInt32 + 1, -65537, -65536, -32769, -32768, -32767, -4096,
		4094, 4095, 4096, 32767, 32768, 65535, 65536, 1 << 24, math.MaxInt32 - 1, math.MaxInt32}
	for n := int32(-260); n <= 260; n++ {
		numbers = append(numbers, n)
	}
	for op := 1; op <= 43; op++ {
		for ab := range 64 {
			for _, form := range []int{0, 1, 2, 4} {
				if (form != 0) != isa.Spans(op) {
					continue
				}
				for _, n := range numbers {
					i := api.Inst{Op: op, A: ab / 8, B: ab % 8, N: n, Form: form}
					if code, why := encode.Encode(i); why == api.OK {
						f(i, code)
					}
				}
			}
		}
	}
}

func TestThereAndBack(t *testing.T) {
	count := map[int]int{}
	everyRight(func(i api.Inst, code []byte) {
		back(t, i, code)
		count[i.Op]++
	})
	if len(count) != 43 {
		t.Errorf("only %d operations were encoded", len(count))
	}
}

func TestThereAndBackOfGreatNumbers(t *testing.T) {
	r := rand.New(rand.NewSource(73))
	li, jmp, call, jz, jnz := op(t, "li"), op(t, "jmp"), op(t, "call"), op(t, "jz"), op(t, "jnz")
	for range 50000 {
		n := int32(r.Uint32()) >> r.Intn(32)
		for _, i := range []api.Inst{
			{Op: li, A: r.Intn(8), N: n}, {Op: jmp, N: n, Form: 4}, {Op: call, N: n, Form: 2},
			{Op: jz, A: r.Intn(8), N: n, Form: 2}, {Op: jnz, A: r.Intn(8), N: n, Form: 4},
		} {
			if code, why := encode.Encode(i); why == api.OK {
				back(t, i, code)
			}
		}
	}
}

func TestBackAndThere(t *testing.T) {
	r := rand.New(rand.NewSource(74))
	taken := 0
	for range 100000 {
		b := some(r, r.Intn(12))
		for at := range b {
			i, n, why := decode.Decode(b, at)
			if why != api.OK {
				continue
			}
			taken++
			if code, why := encode.Encode(i); why != api.OK || !bytes.Equal(code, b[at:at+n]) {
				t.Fatalf("% x at %d: %+v; encoded % x, %v", b, at, i, code, why)
			}
		}
	}
	if taken < 100000 {
		t.Errorf("only %d were taken", taken)
	}
}

func TestAllThereAndBack(t *testing.T) {
	var right []api.Inst
	everyRight(func(i api.Inst, _ []byte) { right = append(right, i) })
	r := rand.New(rand.NewSource(75))
	for size := range 300 {
		var l []api.Inst
		for range size {
			l = append(l, right[r.Intn(len(right))])
		}
		b, _, why := encode.All(l...)
		if why != api.OK {
			t.Fatal(why)
		}
		before := some(r, r.Intn(4))
		at, n := len(before), 0
		for s := range decode.All(append(before, b...), at) {
			if n == len(l) || s != (decode.Step{At: at, Len: isa.Len(l[n]), Inst: l[n]}) {
				t.Fatalf("step %d of %d: %+v", n, len(l), s)
			}
			at += s.Len
			n++
		}
		if n != len(l) || at != len(before)+len(b) {
			t.Fatalf("%d of %d, up to %d of %d", n, len(l), at, len(before)+len(b))
		}
	}
}

// R2

// roomy answers s with spare room behind it that holds room.
func roomy(s, room string) []byte {
	return []byte(s + room)[:len(s)]
}

func TestWhatIsHandedInStays(t *testing.T) {
	good, _ := program(t)
	for _, s := range []string{"", "\xff", "\x10\x92", "\x33\x00\x00\x10", string(good), string(good) + "\xff"} {
		for _, room := range []string{"", "\x00", "\x10\x12\x01"} {
			b := roomy(s, room)
			before := bytes.Clone(b[:cap(b)])
			for at := -1; at <= len(b)+1; at++ {
				decode.Decode(b, at)
				for range decode.All(b, at) {
				}
			}
			if !bytes.Equal(b[:cap(b)], before) {
				t.Errorf("% x with room % x is changed", s, room)
			}
		}
	}
}

func TestSpareRoomIsNotRead(t *testing.T) {
	for _, r := range rowsOf(t, eachOperation) {
		for cut := range r.code {
			b := roomy(string(r.code[:cut]), string(r.code[cut:]))
			refuses(t, b, 0, api.ErrEnd)
			refuses(t, b, len(b), api.ErrEnd)
			refuses(t, b, len(b)+1, api.ErrArg)
		}
		b := roomy(string(r.code), string(r.code))
		if got := steps(b, 0); len(got) != 1 {
			t.Errorf("% x: %+v", b, got)
		}
	}
}

func TestAllDoesNotKeepWhatIsHandedIn(t *testing.T) {
	b, want := program(t)
	all := decode.All(b, 0)
	var got []decode.Step
	for s := range all {
		got = append(got, s)
		for i := range b {
			b[i] = 0xff
		}
	}
	if !slices.Equal(got, want) {
		t.Errorf("changed while it is ranged over: %+v", got)
	}
	if got := slices.Collect(all); !slices.Equal(got, want) {
		t.Errorf("changed ahead of the ranging: %+v", got)
	}
	middle, _ := program(t)
	from := want[len(want)/2].At
	all = decode.All(middle, from)
	clear(middle)
	if got := slices.Collect(all); !slices.Equal(got, want[len(want)/2:]) {
		t.Errorf("changed, from %d: %+v", from, got)
	}
}
