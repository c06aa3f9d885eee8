package cpu

import (
	"math"

	"spandrel/api"
)

// trapped answers the effect of a trap.
func trapped(n int) Effect {
	return Effect{Kind: Trap, Trap: n}
}

// branch answers the effect of a jump that hangs on something.
func branch(goes bool) Effect {
	if goes {
		return Effect{Kind: Go}
	}
	return Effect{}
}

// print puts n behind the prints.
func (c *Cpu) print(n int32) Effect {
	if len(c.prints) == api.MaxTrace {
		return trapped(api.TrapTrace)
	}
	c.prints = append(c.prints, n)
	return Effect{}
}

// in takes the next number of the input.
func (c *Cpu) in(to *int32) Effect {
	if len(c.ahead) == 0 {
		return trapped(api.TrapInput)
	}
	*to, c.ahead = c.ahead[0], c.ahead[1:]
	return Effect{}
}

// push puts n onto the stack.
func (c *Cpu) push(n int32) Effect {
	if len(c.stack) == api.MaxStack {
		return trapped(api.TrapStack)
	}
	c.stack = append(c.stack, n)
	return Effect{}
}

// pop takes the last entry from the stack.
func (c *Cpu) pop(to *int32) Effect {
	last := len(c.stack) - 1
	if last < 0 {
		return trapped(api.TrapStack)
	}
	*to, c.stack = c.stack[last], c.stack[:last]
	return Effect{}
}

// reckoned answers what A becomes by an operation that no trap stops: of what all of them come to, the one that is
// asked for.
func reckoned(op int, a, b int32) int32 {
	by := uint32(b) % 32
	return [...]int32{
		opNeg: -a,
		opNot: ^a,
		opMov: b,
		opAdd: a + b,
		opSub: a - b,
		opMul: a * b,
		opAnd: a & b,
		opOr:  a | b,
		opXor: a ^ b,
		opShl: a << by,
		opShr: int32(uint32(a) >> by),
		opLt:  number(a < b),
		opEq:  number(a == b),
	}[op]
}

// number answers 1 for what is so.
func number(is bool) int32 {
	if is {
		return 1
	}
	return 0
}

// div divides a by b. The least number by -1 is itself: Go's division wraps round.
func div(a *int32, b int32) Effect {
	if b == 0 {
		return trapped(api.TrapDiv)
	}
	*a /= b
	return Effect{}
}

// load puts the number that so many bytes at that address are, the lowest first, into to.
func load(to *int32, mem []byte, from int, address uint32, size int) Effect {
	// A from so low that this wraps round leaves a number below 0: no memory is so long that it has that address.
	at := int64(address) - int64(from)
	if at < 0 || at > int64(len(mem)-size) {
		return trapped(api.TrapMem)
	}
	bits := uint32(0)
	for k, b := range mem[at : at+int64(size)] {
		bits |= uint32(b) << (8 * k)
	}
	*to = int32(bits)
	return Effect{}
}

// recall takes the word of that number.
func (c *Cpu) recall(to *int32, n uint32) Effect {
	if n >= api.MaxRam {
		return trapped(api.TrapMem)
	}
	*to = c.words[n]
	return Effect{}
}

// store makes x the word of that number.
func (c *Cpu) store(n uint32, x int32) Effect {
	if n >= api.MaxRam {
		return trapped(api.TrapMem)
	}
	c.words[n] = x
	return Effect{}
}

// product answers x times y. Each product of two parts is converted, as Go may leave out the rounding of one that is
// not when it adds to it, on some processors.
func product(x, y complex128) complex128 {
	a, b, c, d := real(x), imag(x), real(y), imag(y)
	return complex(float64(a*c)-float64(b*d), float64(a*d)+float64(b*c))
}

// whole puts a part of a z into to, if it is a number that to can hold. A part that is no number is not its own
// truncation.
func whole(to *int32, part float64) Effect {
	if part != math.Trunc(part) || part < math.MinInt32 || part > math.MaxInt32 {
		return trapped(api.TrapWhole)
	}
	*to = int32(part)
	return Effect{}
}
