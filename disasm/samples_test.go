package disasm_test

import (
	"math"
	"slices"
	"strings"

	"linkhouse/api"
	"linkhouse/isa"
)

const (
	reg   = api.OperandReg
	vec   = api.OperandVec
	octet = api.OperandByte
	word  = api.OperandWord
	short = api.OperandShort
	near  = api.OperandNear
)

// invalid returns a fault with a code and an index.
func invalid(code, index int) api.Fault { return api.Fault{Code: code, Index: index} }

// ins returns an instruction.
func ins(form int, args ...int) api.Ins { return api.Ins{Form: form, Args: args} }

// same tells whether two instructions are the same, where nil and empty arguments are.
func same(a, b api.Ins) bool { return a.Form == b.Form && slices.Equal(a.Args, b.Args) }

// single is a table of one form.
func single(name string, kinds ...int) []api.Form {
	return []api.Form{{Name: name, Code: 200, Kinds: kinds}}
}

// small is a table with forms of the same name, of which no form is at its number in the default table.
func small() []api.Form {
	return []api.Form{
		{Name: "x", Code: 7},
		{Name: "x", Code: 255, Kinds: []int{reg}},
		{Name: "y", Code: 0, Kinds: []int{vec, reg}},
		{Name: "x", Code: 8, Kinds: []int{short, vec}},
		{Name: "x", Code: 128, Kinds: []int{octet}},
		{Name: "x", Code: 9, Kinds: []int{word}},
		{Name: "x", Code: 10, Kinds: []int{near}},
		{Name: "x", Code: 11, Kinds: []int{short}},
		{Name: "x", Code: 12, Kinds: []int{vec}},
	}
}

// related is a table whose names are beginnings of each other, or look like parts of operands.
func related() []api.Form {
	return []api.Form{
		{Name: "addb", Code: 1, Kinds: []int{reg}},
		{Name: "add", Code: 2, Kinds: []int{reg}},
		{Name: "ad", Code: 3},
		{Name: "a", Code: 4, Kinds: []int{octet, octet}},
		{Name: "short", Code: 5, Kinds: []int{short}},
		{Name: "near", Code: 6, Kinds: []int{near, reg}},
		{Name: "r", Code: 7, Kinds: []int{reg}},
		{Name: "v", Code: 8, Kinds: []int{vec}},
		{Name: "shortnear", Code: 9},
		{Name: "r", Code: 10},
	}
}

// broken are tables with the faults that every function with a table reports first.
func broken() map[api.Fault][]api.Form {
	var many []api.Form
	for k := range api.MaxForms + 1 {
		many = append(many, api.Form{Name: strings.Repeat("a", 1+k%16), Code: k})
	}
	return map[api.Fault][]api.Form{
		invalid(api.ErrTooMany, -1):  many,
		invalid(api.ErrName, 1):      {{Name: "x", Code: 1}, {Name: "A"}},
		invalid(api.ErrRange, 1):     {{Name: "x", Code: 1}, {Name: "y", Code: 256}},
		invalid(api.ErrTooMany, 1):   {{Name: "x", Code: 1}, {Name: "y", Code: 2, Kinds: []int{1, 1, 1, 1, 1}}},
		invalid(api.ErrKind, 1):      {{Name: "x", Code: 1}, {Name: "y", Code: 2, Kinds: []int{7}}},
		invalid(api.ErrMalformed, 1): {{Name: "x", Code: 1}, {Name: "y", Code: 2, Kinds: []int{5, 6}}},
		invalid(api.ErrExists, 1):    {{Name: "x", Code: 1}, {Name: "x", Code: 2}},
	}
}

// limit is the range of a kind of operands as package api states it, with the texts of its ends after R3.2.
type limit struct {
	kind, low, high   int
	lowText, highText string
}

func limits() []limit {
	return []limit{
		{reg, 0, 7, "r0", "r7"},
		{vec, 0, 3, "v0", "v3"},
		{octet, -128, 127, "-128", "+127"},
		{word, 0, math.MaxUint32, "0", "4294967295"},
		{short, -128, 127, "short -128", "short +127"},
		{near, -32768, 32767, "near -32768", "near +32767"},
	}
}

// values are arguments of a kind, among them its limits.
func values(kind int) []int {
	l := limits()[kind-1]
	return []int{l.low, l.low + 1, (l.low + l.high + 1) / 2, l.high - 1, l.high}
}

// argumentLists calls use with all lists of values of the kinds.
func argumentLists(kinds []int, use func(args []int)) {
	var extend func(args []int)
	extend = func(args []int) {
		if len(args) == len(kinds) {
			use(args)
			return
		}
		for _, value := range values(kinds[len(args)]) {
			extend(append(slices.Clone(args), value))
		}
	}
	extend(nil)
}

// sample is an instruction with its text.
type sample struct {
	table []api.Form
	ins   api.Ins
	text  string
}

// samples are instructions with the texts that R3.2 gives them, written by hand.
func samples() []sample {
	d := isa.Default()
	long := strings.Repeat("z", api.MaxName)
	return []sample{
		{d, ins(api.Halt), "halt"},
		{d, ins(api.Return), "eret"},
		{d, ins(api.Load, 1, 2, 4), "load r1, r2, +4"},
		{d, ins(api.Load, 1, 2, 0), "load r1, r2, +0"},
		{d, ins(api.StoreByte, 7, 0, -4), "storeb r7, r0, -4"},
		{d, ins(api.Add, 0, 7), "add r0, r7"},
		{d, ins(api.AddByte, 5, -1), "addb r5, -1"},
		{d, ins(api.Sys, 100), "sys +100"},
		{d, ins(api.Set, 3, 0), "set r3, 0"},
		{d, ins(api.Set, 3, 10), "set r3, 10"},
		{d, ins(api.Set, 3, 0x80000000), "set r3, 2147483648"},
		{d, ins(api.Count, math.MaxUint32), "count 4294967295"},
		{d, ins(api.JumpShort, 5), "jump short +5"},
		{d, ins(api.JumpNear, 5), "jump near +5"},
		{d, ins(api.JumpShort, 0), "jump short +0"},
		{d, ins(api.JumpNear, 0), "jump near +0"},
		{d, ins(api.OtherShort, -128), "jne short -128"},
		{d, ins(api.OtherNear, -129), "jne near -129"},
		{d, ins(api.Call, 32767), "call near +32767"},
		{d, ins(api.Lea, 6, -32768), "lea r6, near -32768"},
		{d, ins(api.Cas, 1, 2, 3), "cas r1, r2, r3"},
		{d, ins(api.VecLoad, 3, 7), "vload v3, r7"},
		{d, ins(api.VecAdd, 0, 1), "vadd v0, v1"},
		{d, ins(api.VecSum, 4, 2), "vsum r4, v2"},
		{small(), ins(0), "x"},
		{small(), ins(1, 3), "x r3"},
		{small(), ins(3, -1, 2), "x short -1, v2"},
		{small(), ins(4, 3), "x +3"},
		{small(), ins(5, 3), "x 3"},
		{small(), ins(6, 3), "x near +3"},
		{small(), ins(7, 3), "x short +3"},
		{small(), ins(8, 3), "x v3"},
		{related(), ins(0, 1), "addb r1"},
		{related(), ins(1, 1), "add r1"},
		{related(), ins(2), "ad"},
		{related(), ins(3, 0, -10), "a +0, -10"},
		{related(), ins(4, 9), "short short +9"},
		{related(), ins(5, -9, 0), "near near -9, r0"},
		{related(), ins(6, 2), "r r2"},
		{related(), ins(7, 2), "v v2"},
		{related(), ins(8), "shortnear"},
		{related(), ins(9), "r"},
		{single(long, word, octet, vec, near), ins(0, 1000000, 99, 1, 1), long + " 1000000, +99, v1, near +1"},
		{single("b", short, word, word, word), ins(0, -7, 0, 0, 1), "b short -7, 0, 0, 1"},
		{single("c", reg, vec, reg, vec), ins(0, 7, 3, 0, 0), "c r7, v3, r0, v0"},
		{single("d", octet, octet, octet, octet), ins(0, 1, -1, 0, -128), "d +1, -1, +0, -128"},
	}
}
