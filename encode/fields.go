package encode

import (
	"iter"
	"math"

	"linkhouse/api"
)

// span describes the arguments of a kind of operands: how many bits their field has, and the smallest and the greatest one.
type span struct {
	bits, low, high int
}

// spanOf returns the span of a known kind.
func spanOf(kind int) span {
	switch kind {
	case api.OperandReg:
		return span{4, 0, 7}
	case api.OperandVec:
		return span{4, 0, 3}
	case api.OperandByte, api.OperandShort:
		return span{8, math.MinInt8, math.MaxInt8}
	case api.OperandNear:
		return span{16, math.MinInt16, math.MaxInt16}
	default: // api.OperandWord
		return span{32, 0, math.MaxUint32}
	}
}

// field is the part of an encoding that holds an operand: its first byte, its lowest bit in this byte, and its contents.
type field struct {
	at, shift int
	span
}

// fields yields the fields of operands, in the order of the operands, which is not that of the bytes: registers come before all others.
func fields(kinds []int) iter.Seq2[int, field] {
	return func(yield func(int, field) bool) {
		nibble := 0
		next := 1 + (countRegisters(kinds)+1)/2
		for n, kind := range kinds {
			f := field{at: next, span: spanOf(kind)}
			if isRegister(kind) {
				f.at, f.shift = 1+nibble/2, nibble%2*4
				nibble++
			} else {
				next += f.bits / 8
			}
			if !yield(n, f) {
				return
			}
		}
	}
}

func isRegister(kind int) bool {
	return kind == api.OperandReg || kind == api.OperandVec
}

func countRegisters(kinds []int) int {
	count := 0
	for _, kind := range kinds {
		if isRegister(kind) {
			count++
		}
	}
	return count
}

// put writes an argument, which is in its range, into a field whose bits are 0. It keeps the other bits, which are those of another register.
func (f field) put(b []byte, arg int) {
	for k := 0; 8*k < f.bits; k++ {
		b[f.at+k] |= byte(arg << f.shift >> (8 * k))
	}
}

// get reads the argument that a field holds, which may be outside its range.
func (f field) get(b []byte) int {
	bits := 0
	for k := 0; 8*k < f.bits; k++ {
		bits |= int(b[f.at+k]) << (8 * k)
	}
	arg := bits >> f.shift & (1<<f.bits - 1)
	if f.low < 0 && arg > f.high {
		arg -= 1 << f.bits
	}
	return arg
}

// outside returns the position of the first argument that is not in the range of its kind, or -1.
func outside(kinds, args []int) int {
	for n, f := range fields(kinds) {
		if args[n] < f.low || args[n] > f.high {
			return n
		}
	}
	return -1
}
