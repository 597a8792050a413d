package encode_test

import (
	"math"
	"slices"
	"strings"

	"linkhouse/api"
	"linkhouse/isa"
)

// invalid returns a fault with a code and an index.
func invalid(code, index int) api.Fault { return api.Fault{Code: code, Index: index} }

// ins returns an instruction.
func ins(form int, args ...int) api.Ins { return api.Ins{Form: form, Args: args} }

// same tells whether two instructions are the same, where nil and empty arguments are.
func same(a, b api.Ins) bool { return a.Form == b.Form && slices.Equal(a.Args, b.Args) }

// small is a table of which no form is at its number in the default table.
func small() []api.Form {
	return []api.Form{
		{Name: "x", Code: 7},
		{Name: "x", Code: 255, Kinds: []int{api.OperandReg}},
		{Name: "y", Code: 0, Kinds: []int{api.OperandVec, api.OperandReg}},
		{Name: "x", Code: 8, Kinds: []int{api.OperandShort, api.OperandVec}},
		{Name: "z", Code: 128, Kinds: []int{api.OperandByte}},
	}
}

// broken are tables with the faults that every function with a table reports first.
func broken() map[api.Fault][]api.Form {
	var many []api.Form
	for k := range api.MaxForms + 1 {
		many = append(many, api.Form{Name: strings.Repeat("a", 1+k%16), Code: k})
	}
	return map[api.Fault][]api.Form{
		invalid(api.ErrTooMany, -1):  many,
		invalid(api.ErrName, 1):      {{Name: "x", Code: 1}, {Name: "A"}},
		invalid(api.ErrRange, 1):     {{Name: "x", Code: 1}, {Name: "y", Code: 256}},
		invalid(api.ErrTooMany, 1):   {{Name: "x", Code: 1}, {Name: "y", Code: 2, Kinds: []int{1, 1, 1, 1, 1}}},
		invalid(api.ErrKind, 1):      {{Name: "x", Code: 1}, {Name: "y", Code: 2, Kinds: []int{7}}},
		invalid(api.ErrMalformed, 1): {{Name: "x", Code: 1}, {Name: "y", Code: 2, Kinds: []int{5, 6}}},
		invalid(api.ErrExists, 1):    {{Name: "x", Code: 1}, {Name: "x", Code: 2}},
	}
}

// limit is the range of a kind of operands as package api states it.
type limit struct{ kind, low, high int }

func limits() []limit {
	return []limit{
		{api.OperandReg, 0, 7},
		{api.OperandVec, 0, 3},
		{api.OperandByte, -128, 127},
		{api.OperandWord, 0, math.MaxUint32},
		{api.OperandShort, -128, 127},
		{api.OperandNear, -32768, 32767},
	}
}

// sample is an instruction with its encoding.
type sample struct {
	table []api.Form
	ins   api.Ins
	code  []byte
}

// samples are instructions of the default table and of tables of one form, encoded by hand after R2.1.
func samples() []sample {
	d := isa.Default()
	one := func(code int, kinds ...int) []api.Form { return []api.Form{{Name: "a", Code: code, Kinds: kinds}} }
	const (
		reg, vec, octet, word = api.OperandReg, api.OperandVec, api.OperandByte, api.OperandWord
		short, near           = api.OperandShort, api.OperandNear
	)
	return []sample{
		{d, ins(api.Halt), []byte{11}},
		{d, ins(api.Add, 1, 2), []byte{88, 0x21}},
		{d, ins(api.Add, 7, 0), []byte{88, 0x07}},
		{d, ins(api.Add, 0, 7), []byte{88, 0x70}},
		{d, ins(api.Push, 7), []byte{168, 0x07}},
		{d, ins(api.Cas, 1, 2, 3), []byte{143, 0x21, 0x03}},
		{d, ins(api.Cas, 7, 7, 7), []byte{143, 0x77, 0x07}},
		{d, ins(api.VecSum, 7, 3), []byte{251, 0x37}},
		{d, ins(api.Load, 1, 2, 4), []byte{20, 0x21, 4}},
		{d, ins(api.Load, 1, 2, -4), []byte{20, 0x21, 252}},
		{d, ins(api.AddByte, 5, -1), []byte{125, 5, 255}},
		{d, ins(api.Sys, 127), []byte{122, 127}},
		{d, ins(api.Sys, -128), []byte{122, 128}},
		{d, ins(api.Set, 3, 0x01020304), []byte{14, 3, 4, 3, 2, 1}},
		{d, ins(api.Set, 0, 0xfffefdfc), []byte{14, 0, 0xfc, 0xfd, 0xfe, 0xff}},
		{d, ins(api.JumpShort, -128), []byte{242, 128}},
		{d, ins(api.JumpNear, 0x1234), []byte{23, 0x34, 0x12}},
		{d, ins(api.JumpNear, -2), []byte{23, 254, 255}},
		{d, ins(api.Lea, 6, -32768), []byte{66, 6, 0, 128}},
		{d, ins(api.Lea, 6, 32767), []byte{66, 6, 255, 127}},
		{d, ins(api.Count, math.MaxUint32), []byte{109, 255, 255, 255, 255}},
		{one(0), ins(0), []byte{0}},
		{one(255, reg, vec, reg, vec), ins(0, 4, 1, 5, 2), []byte{255, 0x14, 0x25}},
		{one(1, octet, reg), ins(0, -3, 6), []byte{1, 6, 253}},
		{one(2, octet, reg, word, vec), ins(0, 1, 2, 3, 3), []byte{2, 0x32, 1, 3, 0, 0, 0}},
		{one(3, reg, near, vec, reg), ins(0, 1, -300, 3, 5), []byte{3, 0x31, 5, 0xd4, 0xfe}},
		{one(4, word, octet, short, octet), ins(0, 0x80000001, -1, 2, -128), []byte{4, 1, 0, 0, 128, 255, 2, 128}},
		{one(5, word, word, word, near), ins(0, 1, 256, 65536, 255), []byte{5, 1, 0, 0, 0, 0, 1, 0, 0, 0, 0, 1, 0, 255, 0}},
		{one(6, word, word, word, word), ins(0, 0, 1, 0x7fffffff, 0x80000000), []byte{6, 0, 0, 0, 0, 1, 0, 0, 0, 255, 255, 255, 127, 0, 0, 0, 128}},
	}
}
