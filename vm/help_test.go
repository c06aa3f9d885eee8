package vm_test

import (
	"bytes"
	"fmt"
	"math"
	"math/rand"
	"slices"
	"strconv"
	"strings"
	"testing"

	"spandrel/api"
	"spandrel/cpu"
	"spandrel/decode"
	"spandrel/encode"
	"spandrel/image"
	"spandrel/isa"
	"spandrel/link"
	"spandrel/unit"
	"spandrel/vm"
)

const (
	least = math.MinInt32
	most  = math.MaxInt32
	// all is where counters begin anew.
	all = 1 << 32
)

// linked answers the program of the sources.
func linked(srcs ...string) *link.Program {
	var units []api.Unit
	for _, s := range srcs {
		u, err := unit.Assemble(s)
		if err != nil {
			panic(fmt.Sprintf("%s: %v", short(s), err))
		}
		units = append(units, u)
	}
	return program(units...)
}

// program answers the program of units that must be one.
func program(units ...api.Unit) *link.Program {
	p, fail := link.Link(units...)
	if p == nil {
		panic(fmt.Sprintf("%s: %+v", short(units), fail))
	}
	return p
}

// imageOf answers the image of p, which must have one.
func imageOf(p *link.Program) *image.Image {
	m, why := image.Build(p)
	if m == nil {
		panic(why)
	}
	return m
}

// built answers the image of the sources.
func built(srcs ...string) *image.Image {
	return imageOf(linked(srcs...))
}

// lines puts a source together.
func lines(l ...string) string {
	return strings.Join(l, "\n")
}

// short answers x in words, but no more of them than one reads.
func short(x any) string {
	s := fmt.Sprintf("%+v", x)
	if len(s) > 600 {
		return s[:600] + ".."
	}
	return s
}

// octets answers the bytes that are written in s by two digits each, or, as 00x14, several times.
func octets(s string) []byte {
	var out []byte
	for _, word := range strings.Fields(s) {
		digits, times, _ := strings.Cut(word, "x")
		n, err := strconv.ParseUint(digits, 16, 8)
		if err != nil {
			panic(s)
		}
		many := 1
		if times != "" {
			if many, err = strconv.Atoi(times); err != nil {
				panic(s)
			}
		}
		out = append(out, bytes.Repeat([]byte{byte(n)}, many)...)
	}
	return out
}

// Machines.

// begun answers a machine over m with that input.
func begun(t *testing.T, m *image.Image, input ...int32) *vm.Machine {
	t.Helper()
	x, why := vm.New(m, input)
	if x == nil || why != api.OK {
		t.Fatalf("New: %v, %v", x != nil, why)
	}
	return x
}

// raw answers a machine over b with that input.
func raw(t *testing.T, b []byte, code, start int, input ...int32) *vm.Machine {
	t.Helper()
	x, why := vm.Raw(b, code, start, input)
	if x == nil || why != api.OK {
		t.Fatalf("Raw of %d bytes, %d, %d: %v, %v", len(b), code, start, x != nil, why)
	}
	return x
}

// over answers a machine over code, which is all that there is.
func over(t *testing.T, code string, input ...int32) *vm.Machine {
	t.Helper()
	b := octets(code)
	return raw(t, b, len(b), len(b), input...)
}

// ran runs x, which must take the fuel, and answers where it stands.
func ran(t *testing.T, x *vm.Machine, fuel int) vm.State {
	t.Helper()
	s, why := x.Run(fuel)
	if why != api.OK {
		t.Fatalf("Run(%d): %v", fuel, why)
	}
	if other := x.State(); !same(s, other) {
		t.Fatalf("Run(%d): %s, but the State is %s", fuel, short(s), short(other))
	}
	if !slices.Equal(x.Trace(), s.Trace) {
		t.Fatalf("Run(%d): %s, but the prints are %s", fuel, short(s), short(x.Trace()))
	}
	return s
}

// comes runs x and asks where it stands.
func comes(t *testing.T, x *vm.Machine, fuel int, want vm.State) {
	t.Helper()
	if s := ran(t, x, fuel); !same(s, want) {
		t.Errorf("Run(%d): %s, not %s", fuel, short(s), short(want))
	}
}

// holds asks for what is in the registers r.
func holds(t *testing.T, x *vm.Machine, want ...int32) {
	t.Helper()
	for len(want) < 8 {
		want = append(want, 0)
	}
	for n, r := range want {
		if got := x.Reg(n); got != r {
			t.Errorf("r%d is %d, not %d", n, got, r)
		}
	}
}

// halted, trapped and running tell a State without prints.

func halted(value, pc, steps int) vm.State {
	return vm.State{Kind: api.Halted, Value: value, Pc: pc, Steps: steps}
}

func trapped(value, pc, steps int) vm.State {
	return vm.State{Kind: api.Trapped, Value: value, Pc: pc, Steps: steps}
}

func running(pc, steps int) vm.State {
	return vm.State{Kind: api.Running, Pc: pc, Steps: steps}
}

// printing answers s with prints.
func printing(s vm.State, l ...int32) vm.State {
	s.Trace = l
	return s
}

// calling answers s with calls.
func calling(s vm.State, n int) vm.State {
	s.Calls = n
	return s
}

func same(a, b vm.State) bool {
	if !slices.Equal(a.Trace, b.Trace) {
		return false
	}
	a.Trace, b.Trace = nil, nil
	return fmt.Sprint(a) == fmt.Sprint(b)
}

// tells tells all of x that asking does not change.
func tells(x *vm.Machine) string {
	s := fmt.Sprintf("%+v %d %d", x.State(), x.Trace(), x.Depth())
	for n := range 8 {
		s += fmt.Sprintf(" %d", x.Reg(n))
	}
	return s
}

// The chapter's words gone anew.

// model is a machine whose counter is a number of any size, which is brought below 2^32 wherever it changes.
type model struct {
	b           []byte
	code, start int
	cpu         *cpu.Cpu
	at          vm.State
	back        []int
}

func modelOf(b []byte, code, start int, input ...int32) *model {
	c, why := cpu.New(input)
	if why != api.OK {
		panic(why)
	}
	return &model{b: b, code: code, start: start, cpu: c}
}

func (m *model) state() vm.State {
	s := m.at
	s.Calls, s.Trace = len(m.back), m.cpu.Trace()
	return s
}

func (m *model) run(fuel int) vm.State {
	for fuel > 0 && m.at.Kind == api.Running {
		m.one()
		fuel--
	}
	return m.state()
}

// goes makes the counter what n is modulo 2^32.
func (m *model) goes(n int) {
	m.at.Pc = (n%all + all) % all
}

func (m *model) ends(kind, value int) {
	m.at.Kind, m.at.Value = kind, value
}

// there answers the instruction at the counter.
func (m *model) there() (decode.Step, bool) {
	if m.at.Pc < m.code {
		for step := range decode.All(m.b[:m.code], m.at.Pc) {
			return step, true
		}
	}
	return decode.Step{}, false
}

// word answers the four bytes at a place below the code's end.
func (m *model) word(at int) (int32, bool) {
	n := 0
	for k := range 4 {
		if at+k >= m.code {
			return 0, false
		}
		n += int(m.b[at+k]) << (8 * k)
	}
	return int32(uint32(n)), true
}

func (m *model) one() {
	m.at.Steps++
	step, ok := m.there()
	word := int32(0)
	if o, _ := isa.At(step.Inst.Op); ok && o.Name == "ldp" {
		word, ok = m.word(step.At + step.Len + int(step.Inst.N))
	}
	if !ok {
		m.ends(api.Trapped, api.TrapCode)
		return
	}
	m.goes(step.At + step.Len)
	m.follow(m.cpu.Do(step.Inst, word, m.b[m.start:], m.start), int(step.Inst.N))
}

func (m *model) follow(e cpu.Effect, n int) {
	behind := m.at.Pc
	switch e.Kind {
	case cpu.Call, cpu.Ret:
		if e.Kind == cpu.Call && len(m.back) == 256 || e.Kind == cpu.Ret && len(m.back) == 0 {
			m.ends(api.Trapped, api.TrapCall)
			return
		}
		if e.Kind == cpu.Call {
			m.back = slices.Insert(m.back, 0, behind)
			m.goes(behind + n)
			return
		}
		m.goes(m.back[0])
		m.back = m.back[1:]
	case cpu.Go:
		m.goes(behind + n)
	case cpu.Computed:
		m.goes(int(e.To))
	case cpu.Halt:
		m.ends(api.Halted, int(m.cpu.Reg(0)))
	case cpu.Trap:
		m.ends(api.Trapped, e.Trap)
	}
}

// agrees runs a machine over b by parts of these sizes, and asks that it stands where the model does, each time.
func agrees(t *testing.T, b []byte, code, start int, input []int32, parts ...int) vm.State {
	t.Helper()
	x, m := raw(t, b, code, start, input...), modelOf(b, code, start, input...)
	for _, fuel := range parts {
		if got, want := ran(t, x, fuel), m.run(fuel); !same(got, want) {
			t.Fatalf("% .60x, %d, %d, by %s: %s, not %s", b, code, start, short(parts), short(got), short(want))
		}
		for n := range 8 {
			if x.Reg(n) != m.cpu.Reg(n) {
				t.Fatalf("% .60x, %d, %d: r%d is %d, not %d", b, code, start, n, x.Reg(n), m.cpu.Reg(n))
			}
		}
		if x.Depth() != m.cpu.Depth() {
			t.Fatalf("% .60x, %d, %d: %d entries, not %d", b, code, start, x.Depth(), m.cpu.Depth())
		}
	}
	return x.State()
}

// Drawn code.

type drawer struct {
	*rand.Rand
}

func (d drawer) of(l ...string) string {
	return l[d.Intn(len(l))]
}

// reg draws a register, mostly one of the first four.
func (d drawer) reg() string {
	return "r" + strconv.Itoa(d.Intn([]int{4, 4, 4, 8}[d.Intn(4)]))
}

// line answers a line of code.
func (d drawer) line() string {
	label := d.of("a", "b", "c")
	switch d.Intn(12) {
	case 0:
		return "jmp " + label
	case 1:
		return d.of("jz ", "jnz ") + d.reg() + ", " + label
	case 2:
		return "call " + label
	case 3:
		return d.of("ret", "ret", "halt", "trap 7", "jr "+d.reg(), "jmp 0-3", "jz r7, 5000")
	case 4:
		return "lis " + d.reg() + ", " + strconv.Itoa(d.Intn(41)-20)
	case 5:
		return "li " + d.reg() + ", " + d.of("x", "x+4", "y", "y+1", label, "70000", "x-1")
	case 6:
		return "ldp " + d.reg() + ", =" + d.of("x", "y", "9", "70000", label)
	case 7:
		return d.of("ldw ", "ldb ", "ldm ", "stm ") + d.reg() + ", " + d.reg()
	case 8:
		return d.of("print ", "push ", "pop ", "in ", "neg ", "not ") + d.reg()
	case 9:
		return d.of("pool", "align 2", "align 8", "nop", strings.Repeat("nop\n", 130))
	case 10:
		return d.of("zset z0, r1, r2", "zmul z0, z0", "zre r3, z0", "zim r2, z0", "zturn z0", "zset z1, r3, r0", "zadd z0, z1")
	}
	return d.of("add ", "sub ", "mul ", "div ", "lt ", "eq ", "xor ", "mov ", "shl ") + d.reg() + ", " + d.reg()
}

// source draws a source with three labels and some data.
func (d drawer) source() string {
	spots := map[int]string{0: "a:", 1 + d.Intn(8): "b:", 9 + d.Intn(3): "c:"}
	l := []string{"lis r1, " + strconv.Itoa(d.Intn(9)), "li r2, x"}
	for i := range 12 {
		l = append(l, spots[i], d.line())
	}
	return lines(append(l, "section data", "x: word 5, a, -70000", "y: byte 1, -1, 200", d.of("", "align 16", "space 9"))...)
}

// inst draws an instruction whose displacement, if it has one, is small or very great.
func (d drawer) inst() api.Inst {
	for {
		i := api.Inst{Op: 1 + d.Intn(43), A: d.Intn(8), B: d.Intn(8), N: int32(d.Intn(60) - 30)}
		if isa.Spans(i.Op) {
			i.B, i.Form = 0, []int{1, 2, 4}[d.Intn(3)]
			if d.Intn(20) == 0 {
				i.N = []int32{most, least, 1000, -1000}[d.Intn(4)]
			}
		}
		if d.Intn(2) == 0 {
			i.B = 0
		}
		if d.Intn(3) == 0 {
			i.N, i.A = 0, 0
		}
		if isa.Check(i) == api.OK {
			return i
		}
	}
}

// bytes draws bytes most of which are code.
func (d drawer) bytes() []byte {
	var b []byte
	for range 1 + d.Intn(15) {
		one, why := encode.Encode(d.inst())
		if why != api.OK {
			panic(why)
		}
		b = append(b, one...)
	}
	for range d.Intn(3) {
		b[d.Intn(len(b))] = byte(d.Intn(256))
	}
	return b
}
