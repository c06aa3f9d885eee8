package cpu_test

import (
	"fmt"
	"math"
	"math/big"
	"slices"
	"strconv"
	"strings"
	"testing"

	"spandrel/api"
	"spandrel/cpu"
	"spandrel/isa"
)

const (
	least = math.MinInt32
	most  = math.MaxInt32
)

// edges are numbers at which operations turn.
var edges = []int32{
	0, 1, -1, 2, -2, 3, 4, 5, 7, -7, 8, 15, 16, 31, 32, 33, 63, 64, 100, 127, 128, -128, -129, 255, 256, 257, 1000, -1000,
	4095, 65535, 65536, 65537, -65536, 1 << 24, 1<<30 - 1, 1 << 30, -1 << 30, most, most - 1, least, least + 1, 0x55555555, -0x55555556,
}

// begun answers a Cpu with that input.
func begun(t *testing.T, input ...int32) *cpu.Cpu {
	t.Helper()
	c, why := cpu.New(input)
	if c == nil || why != api.OK {
		t.Fatalf("New of %d: %v, %v", len(input), c != nil, why)
	}
	return c
}

// inst answers the instruction that s says, such as `add r1, r2` or `zset z0, r1, r2`; a jump says its displacement.
func inst(s string) api.Inst {
	name, rest, _ := strings.Cut(strings.TrimSpace(s), " ")
	op, ok := isa.Find(name)
	if !ok {
		panic(s)
	}
	var l []int
	for _, arg := range strings.FieldsFunc(rest, func(c rune) bool { return c == ',' || c == ' ' }) {
		n, err := strconv.Atoi(strings.TrimLeft(arg, "rz"))
		if err != nil {
			panic(s)
		}
		l = append(l, n)
	}
	o, _ := isa.At(op)
	return shaped(op, o.Shape, append(l, 0, 0, 0))
}

// shaped answers the instruction of these arguments.
func shaped(op, shape int, l []int) api.Inst {
	i := api.Inst{Op: op, A: l[0], B: l[1], N: int32(l[2])}
	switch shape {
	case isa.Small, isa.Wide, isa.Load, isa.Branch:
		i.B, i.N = 0, int32(l[1])
	case isa.Own, isa.Jump:
		i.A, i.N = 0, int32(l[0])
	}
	if isa.Spans(op) {
		i.Form = 4
	}
	return i
}

// does does the instructions of s, one behind the other, and answers the last one's effect.
func does(c *cpu.Cpu, s string) cpu.Effect {
	var e cpu.Effect
	for part := range strings.SplitSeq(s, ";") {
		e = c.Do(inst(part), 0, nil, 0)
	}
	return e
}

// goesOn does the instructions of s, none of which may do anything else than go on.
func goesOn(t *testing.T, c *cpu.Cpu, s string) {
	t.Helper()
	for part := range strings.SplitSeq(s, ";") {
		if e := does(c, part); e != (cpu.Effect{}) {
			t.Errorf("%s, of %s: %+v", part, short(s), e)
		}
	}
}

// set puts n into the register r of that number.
func set(t *testing.T, c *cpu.Cpu, r int, n int32) {
	t.Helper()
	if e := c.Do(api.Inst{Op: inst("li r0, 0").Op, A: r, N: n}, 0, nil, 0); e != (cpu.Effect{}) {
		t.Errorf("li r%d, %d: %+v", r, n, e)
	}
}

// holds asks for what is in the registers r.
func holds(t *testing.T, c *cpu.Cpu, want ...int32) {
	t.Helper()
	for len(want) < 8 {
		want = append(want, 0)
	}
	for n, x := range want {
		if got := c.Reg(n); got != x {
			t.Errorf("r%d is %d, not %d", n, got, x)
		}
	}
}

// traps is the effect of a trap.
func traps(n int) cpu.Effect {
	return cpu.Effect{Kind: cpu.Trap, Trap: n}
}

// short answers x in words, but no more of them than one reads.
func short(x any) string {
	s := fmt.Sprintf("%+v", x)
	if len(s) > 600 {
		return s[:600] + ".."
	}
	return s
}

// doer does instructions: a Cpu, or the model.
type doer interface {
	Do(i api.Inst, word int32, mem []byte, from int) cpu.Effect
	Reg(n int) int32
	Trace() []int32
	Depth() int
}

// drained tells all that can be told of d, which it uses up: registers, prints, words, parts, stack and input.
func drained(d doer) string {
	var out strings.Builder
	tell := func(x ...any) { fmt.Fprintln(&out, x...) }
	for n := range 8 {
		tell("r", n, d.Reg(n))
	}
	tell("prints", d.Trace(), "depth", d.Depth())
	for n := range 4 {
		for _, name := range []string{"zre", "zim"} {
			tell(name, n, d.Do(inst(fmt.Sprintf("%s r0, z%d", name, n)), 0, nil, 0), d.Reg(0))
		}
	}
	for _, name := range []string{"pop r0", "in r0"} {
		for e := (cpu.Effect{}); e == (cpu.Effect{}); {
			e = d.Do(inst(name), 0, nil, 0)
			tell(name, e, d.Reg(0))
		}
	}
	for n := range api.MaxRam {
		d.Do(inst(fmt.Sprintf("li r0, %d", n)), 0, nil, 0)
		tell("word", n, d.Do(inst("ldm r0, r0"), 0, nil, 0), d.Reg(0))
	}
	return out.String()
}

// model is the chapter's words gone anew, with numbers of any length.
type model struct {
	r, words             map[int]int32
	z                    [4][2]float64
	stack, prints, input []int32
}

func modelOf(input ...int32) *model {
	return &model{r: map[int]int32{}, words: map[int]int32{}, input: slices.Clone(input)}
}

func (m *model) Reg(n int) int32 { return m.r[n] }
func (m *model) Trace() []int32  { return m.prints }
func (m *model) Depth() int      { return len(m.stack) }

// wrapped answers the last 32 bits of x as a number with a sign.
func wrapped(x *big.Int) int32 {
	all := new(big.Int).Lsh(big.NewInt(1), 32)
	n := new(big.Int).Mod(x, all).Int64()
	if n > most {
		n -= 1 << 32
	}
	return int32(n)
}

// unsigned answers the 32 bits of n as a number without a sign.
func unsigned(n int32) int64 {
	if n < 0 {
		return int64(n) + 1<<32
	}
	return int64(n)
}

// bits answers what each bit becomes, by the sum of the two that were there.
func bits(a, b int32, becomes [3]int64) *big.Int {
	out := big.NewInt(0)
	for k := range 32 {
		sum := unsigned(a)>>k%2 + unsigned(b)>>k%2
		out.Add(out, big.NewInt(becomes[sum]<<k))
	}
	return out
}

// truth answers 1 for what is so.
func truth(is bool) *big.Int {
	if is {
		return big.NewInt(1)
	}
	return big.NewInt(0)
}

// reckoned answers what A becomes by a, b; nil, if the operation is none that reckons.
func reckoned(name string, a, b int32) *big.Int {
	x, y := big.NewInt(int64(a)), big.NewInt(int64(b))
	to := new(big.Int)
	two := new(big.Int).Exp(big.NewInt(2), big.NewInt(unsigned(b)%32), nil)
	switch name {
	case "neg":
		return to.Neg(x)
	case "not":
		return to.Sub(big.NewInt(-1), x)
	case "mov":
		return y
	case "add":
		return to.Add(x, y)
	case "sub":
		return to.Sub(x, y)
	case "mul":
		return to.Mul(x, y)
	case "div":
		return to.Quo(x, y)
	case "and":
		return bits(a, b, [3]int64{0, 0, 1})
	case "or":
		return bits(a, b, [3]int64{0, 1, 1})
	case "xor":
		return bits(a, b, [3]int64{0, 1, 0})
	case "shl":
		return to.Mul(x, two)
	case "shr":
		return to.Quo(big.NewInt(unsigned(a)), two)
	case "lt":
		return truth(a < b)
	case "eq":
		return truth(a == b)
	}
	return nil
}

// times answers a product that is rounded to a float64, once.
func times(a, b float64) float64 {
	if math.IsInf(a, 0) || math.IsInf(b, 0) || math.IsNaN(a) || math.IsNaN(b) {
		return a * b
	}
	exact := new(big.Float).SetPrec(200).Mul(big.NewFloat(a), big.NewFloat(b))
	n, _ := exact.Float64()
	return n
}

// lies answers the number that so many bytes at an address are, each of which must lie in mem.
func lies(mem []byte, from int, address int64, size int) (*big.Int, bool) {
	out := big.NewInt(0)
	for k := range size {
		at := new(big.Int).Sub(big.NewInt(address+int64(k)), big.NewInt(int64(from)))
		if !at.IsInt64() || at.Int64() < 0 || at.Int64() >= int64(len(mem)) {
			return nil, false
		}
		out.Add(out, new(big.Int).Lsh(big.NewInt(int64(mem[at.Int64()])), uint(8*k)))
	}
	return out, true
}

func (m *model) Do(i api.Inst, word int32, mem []byte, from int) cpu.Effect {
	if isa.Check(i) != api.OK {
		return traps(api.TrapCode)
	}
	o, _ := isa.At(i.Op)
	a, b := m.r[i.A], m.r[i.B]
	switch o.Name {
	case "halt":
		return cpu.Effect{Kind: cpu.Halt}
	case "ret":
		return cpu.Effect{Kind: cpu.Ret}
	case "jmp":
		return cpu.Effect{Kind: cpu.Go}
	case "call":
		return cpu.Effect{Kind: cpu.Call}
	case "jz", "jnz":
		if (a == 0) == (o.Name == "jz") {
			return cpu.Effect{Kind: cpu.Go}
		}
	case "jr":
		return cpu.Effect{Kind: cpu.Computed, To: uint32(unsigned(a))}
	case "trap":
		return traps(100 + int(i.N))
	case "lis", "li":
		m.r[i.A] = i.N
	case "ldp":
		m.r[i.A] = word
	case "div":
		if b == 0 {
			return traps(api.TrapDiv)
		}
		m.r[i.A] = wrapped(reckoned(o.Name, a, b))
	case "print", "in", "push", "pop":
		return m.moves(o.Name, i.A)
	case "ldb", "ldw", "ldm", "stm":
		return m.stores(o.Name, i.A, a, b, mem, from)
	default:
		if x := reckoned(o.Name, a, b); x != nil {
			m.r[i.A] = wrapped(x)
			return cpu.Effect{}
		}
		return m.turns(o.Name, i)
	}
	return cpu.Effect{}
}

// moves does what is done to the prints, the input and the stack.
func (m *model) moves(name string, a int) cpu.Effect {
	switch {
	case name == "print" && len(m.prints) == 4096:
		return traps(api.TrapTrace)
	case name == "print":
		m.prints = append(m.prints, m.r[a])
	case name == "in" && len(m.input) == 0:
		return traps(api.TrapInput)
	case name == "in":
		m.r[a] = m.input[0]
		m.input = m.input[1:]
	case name == "push" && len(m.stack) == 256, name == "pop" && len(m.stack) == 0:
		return traps(api.TrapStack)
	case name == "push":
		m.stack = append(m.stack, m.r[a])
	case name == "pop":
		m.r[a] = m.stack[len(m.stack)-1]
		m.stack = m.stack[:len(m.stack)-1]
	}
	return cpu.Effect{}
}

// stores does what is done with bytes and words.
func (m *model) stores(name string, to int, a, b int32, mem []byte, from int) cpu.Effect {
	switch name {
	case "ldm", "stm":
		n := unsigned(b)
		if name == "stm" {
			n = unsigned(a)
		}
		if n >= 256 {
			return traps(api.TrapMem)
		}
		if name == "stm" {
			m.words[int(n)] = b
		} else {
			m.r[to] = m.words[int(n)]
		}
	default:
		x, ok := lies(mem, from, unsigned(b), map[string]int{"ldb": 1, "ldw": 4}[name])
		if !ok {
			return traps(api.TrapMem)
		}
		m.r[to] = wrapped(x)
	}
	return cpu.Effect{}
}

// turns does what is done with the registers z.
func (m *model) turns(name string, i api.Inst) cpu.Effect {
	if name == "zre" || name == "zim" {
		part := m.z[i.B][map[string]int{"zre": 0, "zim": 1}[name]]
		if math.IsNaN(part) || math.IsInf(part, 0) || part != math.Floor(part) || part > most || part < least {
			return traps(api.TrapWhole)
		}
		m.r[i.A] = int32(int64(part))
		return cpu.Effect{}
	}
	z := m.z[i.A]
	switch name {
	case "zturn":
		m.z[i.A] = [2]float64{-z[1], z[0]}
	case "zconj":
		m.z[i.A] = [2]float64{z[0], -z[1]}
	case "zmov":
		m.z[i.A] = m.z[i.B]
	case "zadd":
		m.z[i.A] = [2]float64{z[0] + m.z[i.B][0], z[1] + m.z[i.B][1]}
	case "zsub":
		m.z[i.A] = [2]float64{z[0] - m.z[i.B][0], z[1] - m.z[i.B][1]}
	case "zmul":
		y := m.z[i.B]
		m.z[i.A] = [2]float64{times(z[0], y[0]) - times(z[1], y[1]), times(z[0], y[1]) + times(z[1], y[0])}
	case "zset":
		m.z[i.A] = [2]float64{float64(m.r[i.B]), float64(m.r[int(i.N)])}
	}
	return cpu.Effect{}
}
