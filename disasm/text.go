package disasm

import (
	"strconv"
	"strings"

	"linkhouse/api"
	"linkhouse/encode"
	"linkhouse/isa"
)

// What separates the parts of a text: in front of the first operand, and of each other one. Neither is a part of an operand.
const (
	beforeFirst = " "
	beforeOther = ", "
)

// lead returns what an operand of a known kind begins with, in front of its number.
func lead(kind int) string {
	switch kind {
	case api.OperandReg:
		return "r"
	case api.OperandVec:
		return "v"
	case api.OperandShort:
		return "short "
	case api.OperandNear:
		return "near "
	}
	return ""
}

// hasSign tells whether the number of an operand of a known kind has a sign even if it is not negative.
func hasSign(kind int) bool {
	return kind == api.OperandByte || kind == api.OperandShort || kind == api.OperandNear
}

// operand returns the text of an operand of a known kind.
func operand(kind, arg int) string {
	number := strconv.Itoa(arg)
	if hasSign(kind) && arg >= 0 {
		number = "+" + number
	}
	return lead(kind) + number
}

// readOperand returns the kind and the argument of an operand, which may be outside its range, and whether there is one with this text. It is the only one: two kinds have the same text only for a negative word, which no instruction has, and the other kind comes first.
func readOperand(text string) (int, int, bool) {
	for kind := api.OperandReg; kind <= api.OperandNear; kind++ {
		// strconv.Atoi also reads numbers that are written in another way than by operand.
		arg, err := strconv.Atoi(strings.TrimPrefix(text, lead(kind)))
		if err == nil && operand(kind, arg) == text {
			return kind, arg, true
		}
	}
	return 0, 0, false
}

// instruction returns the instruction of a valid table with a text, and whether there is one. The text tells the kinds of the operands, and these tell the form from others with the same name.
func instruction(t []api.Form, text string) (api.Ins, bool) {
	name, rest, some := strings.Cut(text, beforeFirst)
	var kinds, args []int
	if some {
		for part := range strings.SplitSeq(rest, beforeOther) {
			kind, arg, found := readOperand(part)
			if !found {
				return api.Ins{}, false
			}
			kinds, args = append(kinds, kind), append(args, arg)
		}
	}
	number, fault := isa.Find(t, name, kinds)
	if fault != (api.Fault{}) {
		return api.Ins{}, false
	}
	i := api.Ins{Form: number, Args: args}
	// An argument outside the range of its kind has no text.
	_, fault = encode.Encode(t, i)
	return i, fault == (api.Fault{})
}
