package item

import (
	"math"
	"strings"

	"spandrel/api"
	"spandrel/expr"
	"spandrel/isa"
	"spandrel/lex"
)

// reader reads the arguments of a line, the first one first, and keeps what they tell; its type is what the line may be.
type reader interface {
	// read answers why the arguments are not those of such a line, or OK. Their number must be right.
	read(args [][]lex.Token) api.Errno
}

// readerOf answers a new reader for the arguments of lines with that operation, and how many there are at least and
// at most; nil, if there is no such operation.
func readerOf(op string) (r reader, least, most int) {
	switch op {
	case "align":
		return &single{item: api.Item{Kind: api.Align}}, 1, 1
	case "pool":
		return &single{item: api.Item{Kind: api.Pool}}, 0, 0
	case "byte":
		return &several{kind: api.Byte}, 1, math.MaxInt
	case "word":
		return &several{kind: api.Word}, 1, math.MaxInt
	case "space":
		return &single{item: api.Item{Kind: api.Space}}, 1, 1
	case "equ":
		return &equation{}, 2, 2
	case "global":
		return &export{}, 1, 1
	case "section":
		return &segment{}, 1, 1
	}
	n, ok := isa.Find(op)
	if !ok {
		return nil, 0, 0
	}
	o, _ := isa.At(n)
	wants := wanted(o.Shape)
	return &operation{wants: wants, item: api.Item{Kind: api.Code, Inst: api.Inst{Op: n}}}, len(wants), len(wants)
}

// What an argument of an operation must be.
const (
	wantReg      = 'r'
	wantZReg     = 'z'
	wantConstant = 'n'
	wantExpr     = 'e'
	wantLiteral  = '='
)

// wanted answers what the arguments of an operation of that shape must be, a letter each.
func wanted(shape int) string {
	switch shape {
	case isa.Reg:
		return "r"
	case isa.ZReg:
		return "z"
	case isa.Two:
		return "rr"
	case isa.ZTwo:
		return "zz"
	case isa.Part:
		return "rz"
	case isa.Build:
		return "zrr"
	case isa.Small:
		return "rn"
	case isa.Own:
		return "n"
	case isa.Wide, isa.Branch:
		return "re"
	case isa.Load:
		return "r="
	case isa.Jump:
		return "e"
	}
	return ""
}

// operation reads the arguments of an instruction.
type operation struct {
	wants string
	item  api.Item
}

func (o *operation) read(args [][]lex.Token) api.Errno {
	for place, arg := range args {
		if why := o.readOne(place, arg); why != api.OK {
			return why
		}
	}
	return api.OK
}

// readOne reads the argument at that place.
func (o *operation) readOne(place int, arg []lex.Token) (why api.Errno) {
	switch want := o.wants[place]; want {
	case wantReg, wantZReg:
		n, ok := register(arg, want == wantZReg)
		if !ok {
			return api.ErrSyntax
		}
		o.setRegister(place, n)
	case wantConstant:
		if o.item.Inst.N, why = constant(arg); why != api.OK {
			return why
		}
		// A register ahead of it is right: what is refused here is the number.
		if isa.Check(o.item.Inst) != api.OK {
			return api.ErrBad
		}
	case wantLiteral:
		if len(arg) == 0 || arg[0].Kind != lex.Sign || arg[0].Text != "=" {
			return api.ErrSyntax
		}
		arg = arg[1:]
		fallthrough
	case wantExpr:
		o.item.E, why = expr.Parse(arg)
	}
	return why
}

// setRegister sets the register that the argument at that place is; a third one is the instruction's number.
func (o *operation) setRegister(place, n int) {
	switch place {
	case 0:
		o.item.Inst.A = n
	case 1:
		o.item.Inst.B = n
	default:
		o.item.Inst.N = int32(n)
	}
}

// single reads the argument of a directive that says one item, a number, or none at all.
type single struct {
	item api.Item
}

func (s *single) read(args [][]lex.Token) (why api.Errno) {
	for _, arg := range args {
		s.item.N, why = numberOf(s.item.Kind, arg)
	}
	return why
}

// several reads the arguments of a directive that says an item of one kind for each.
type several struct {
	kind  int
	items []api.Item
}

func (s *several) read(args [][]lex.Token) (why api.Errno) {
	for _, arg := range args {
		x := api.Item{Kind: s.kind}
		if s.kind == api.Word {
			x.E, why = expr.Parse(arg)
		} else {
			x.N, why = numberOf(s.kind, arg)
		}
		if why != api.OK {
			return why
		}
		s.items = append(s.items, x)
	}
	return api.OK
}

// equation reads a name and what it is a name for.
type equation struct {
	name string
	e    api.Lin
}

func (q *equation) read(args [][]lex.Token) (why api.Errno) {
	if q.name, why = name(args[0]); why != api.OK {
		return why
	}
	q.e, why = expr.Parse(args[1])
	return why
}

// export reads a name that other units may know.
type export struct {
	name string
}

func (x *export) read(args [][]lex.Token) (why api.Errno) {
	x.name, why = name(args[0])
	return why
}

// segment reads which section follows.
type segment struct {
	section int
}

func (s *segment) read(args [][]lex.Token) api.Errno {
	switch word(args[0]) {
	case "text":
		s.section = Text
	case "data":
		s.section = Data
	default:
		return api.ErrSyntax
	}
	return api.OK
}

// word answers the word that arg is, if it is one token and that a name; else the empty text, which no name is.
func word(arg []lex.Token) string {
	if len(arg) != 1 || arg[0].Kind != lex.Name {
		return ""
	}
	return arg[0].Text
}

// name answers the legal name that arg is, or ErrSyntax.
func name(arg []lex.Token) (string, api.Errno) {
	s := word(arg)
	if !lex.Legal(s) {
		return "", api.ErrSyntax
	}
	// A copy, so that what is said does not hold on to the text that the name was cut out of.
	return strings.Clone(s), api.OK
}

// register answers the register that arg is; false, if it is none, or none of z0 to z3 where it must be one, or one
// where it must not.
func register(arg []lex.Token, z bool) (int, bool) {
	n, isZ, ok := lex.Register(word(arg))
	if !ok || isZ != z {
		return 0, false
	}
	return n, true
}

// constant answers the number that arg is, with its sign, or why it is none.
func constant(arg []lex.Token) (int32, api.Errno) {
	e, why := expr.Parse(arg)
	if why == api.OK && len(e.Terms) > 0 {
		why = api.ErrBad
	}
	if why != api.OK {
		return 0, why
	}
	return int32(e.Const), api.OK
}

// numberOf answers the constant that arg is, the number of an item of that kind, or why it is none.
func numberOf(kind int, arg []lex.Token) (int, api.Errno) {
	n, why := constant(arg)
	if why == api.OK && !isNumberOf(kind, int(n)) {
		why = api.ErrBad
	}
	if why != api.OK {
		return 0, why
	}
	return int(n), api.OK
}
