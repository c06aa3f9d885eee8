package vm

import (
	"spandrel/api"
	"spandrel/cpu"
	"spandrel/decode"
	"spandrel/isa"
)

// fetched is an instruction, the place behind it, and the word that it loads, if it loads one.
type fetched struct {
	inst   api.Inst
	behind uint32
	word   int32
}

// step does the instruction at the counter.
func (x *Machine) step() {
	x.steps++
	f, ok := x.fetch()
	if !ok {
		// The counter stays at what can't be done.
		x.end(api.Trapped, api.TrapCode)
		return
	}
	x.pc = f.behind
	x.follow(x.Do(f.inst, f.word, x.mem, x.from), uint32(f.inst.N))
}

// fetch answers what is to be done at the counter; false, if there is no instruction, or not the word that it loads.
func (x *Machine) fetch() (fetched, bool) {
	// A counter that is not below the code's end is refused here, too.
	i, size, why := decode.Decode(x.code, int(x.pc))
	if why != api.OK {
		return fetched{}, false
	}
	f := fetched{inst: i, behind: x.pc + uint32(size)}
	if o, _ := isa.At(i.Op); o.Shape != isa.Load {
		return f, true
	}
	at := int(f.behind) + int(i.N)
	if at+wordSize > len(x.code) {
		return fetched{}, false
	}
	f.word = word(x.code[at : at+wordSize])
	return f, true
}

// wordSize is how many bytes a word has.
const wordSize = 4

// word answers the number that these bytes are, the lowest first.
func word(b []byte) int32 {
	n := int32(0)
	for k, x := range b {
		n |= int32(x) << (8 * k)
	}
	return n
}

// follow goes on where an instruction, whose number is n, leads; the counter is behind it.
func (x *Machine) follow(e cpu.Effect, n uint32) {
	switch e.Kind {
	case cpu.Go:
		x.pc += n
	case cpu.Call:
		x.call(n)
	case cpu.Ret:
		x.ret()
	case cpu.Computed:
		x.pc = e.To
	case cpu.Halt:
		x.end(api.Halted, int(x.Reg(0)))
	case cpu.Trap:
		x.end(api.Trapped, e.Trap)
	}
}

// call goes on by n, and keeps where the run is to come back to.
func (x *Machine) call(n uint32) {
	if len(x.calls) == api.MaxStack {
		x.end(api.Trapped, api.TrapCall)
		return
	}
	x.calls = append(x.calls, x.pc)
	x.pc += n
}

// ret goes back to behind the last call.
func (x *Machine) ret() {
	last := len(x.calls) - 1
	if last < 0 {
		x.end(api.Trapped, api.TrapCall)
		return
	}
	x.pc, x.calls = x.calls[last], x.calls[:last]
}

// end ends the run.
func (x *Machine) end(kind, value int) {
	x.kind, x.value = kind, value
}
