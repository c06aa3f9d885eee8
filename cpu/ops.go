package cpu

// The numbers of the operations: their places in the order of isa.Ops.
const (
	opNop = 1 + iota
	opHalt
	opRet
	opPrint
	opIn
	opPush
	opPop
	opJr
	opNeg
	opNot
	opZturn
	opZconj
	opMov
	opAdd
	opSub
	opMul
	opDiv
	opAnd
	opOr
	opXor
	opShl
	opShr
	opLt
	opEq
	opLdb
	opLdw
	opLdm
	opStm
	opZmov
	opZadd
	opZsub
	opZmul
	opZre
	opZim
	opZset
	opLis
	opTrap
	opLi
	opLdp
	opJmp
	opCall
	opJz
	opJnz
)

// kinds are the effects of the operations that do nothing but that.
var kinds = [opCall + 1]int{opHalt: Halt, opRet: Ret, opJmp: Go, opCall: Call}
