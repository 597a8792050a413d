package isa

import (
	"strings"

	"linkhouse/api"
)

// names are the names of the forms of the default table, in the order of their numbers.
const names = "halt nop break sys eret fence move set setb add addb sub mul div and or xor shl shr cmp cmpb " +
	"load store loadb storeb push pop jump jump jeq jeq jne jne jlt jlt jlo jlo jumpr jumpm jumpa call callr ret lea " +
	"vload vstore vadd vmul vsum vset swap fetch cas tp trapv cause where skip count"

// Default returns the default table.
func Default() []api.Form {
	t := make([]api.Form, 0, api.Forms)
	for name := range strings.FieldsSeq(names) {
		number := len(t)
		t = append(t, api.Form{Name: name, Code: (37*number + 11) % 256, Kinds: operands(number)})
	}
	return t
}

// operands returns the operand kinds of a form of the default table, as a new list on every call because forms share no memory.
func operands(number int) []int {
	const (
		reg, vec, octet, word = api.OperandReg, api.OperandVec, api.OperandByte, api.OperandWord
		short, near           = api.OperandShort, api.OperandNear
	)
	switch number {
	case api.Sys:
		return []int{octet}
	case api.JumpMem, api.JumpAbs, api.Count:
		return []int{word}
	case api.JumpShort, api.EqualShort, api.OtherShort, api.LessShort, api.LowerShort:
		return []int{short}
	case api.JumpNear, api.EqualNear, api.OtherNear, api.LessNear, api.LowerNear, api.Call:
		return []int{near}
	case api.Push, api.Pop, api.JumpReg, api.CallReg, api.Thread, api.Vector, api.Cause, api.Where, api.Skip:
		return []int{reg}
	case api.Move, api.Add, api.Sub, api.Mul, api.Div, api.And, api.Or, api.Xor, api.Shl, api.Shr, api.Cmp, api.Swap, api.Fetch:
		return []int{reg, reg}
	case api.SetByte, api.AddByte, api.CmpByte:
		return []int{reg, octet}
	case api.Load, api.Store, api.LoadByte, api.StoreByte:
		return []int{reg, reg, octet}
	case api.Set:
		return []int{reg, word}
	case api.Lea:
		return []int{reg, near}
	case api.VecLoad, api.VecStore, api.VecSet:
		return []int{vec, reg}
	case api.VecAdd, api.VecMul:
		return []int{vec, vec}
	case api.VecSum:
		return []int{reg, vec}
	case api.Cas:
		return []int{reg, reg, reg}
	}
	return nil
}
