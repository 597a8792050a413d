package encode_test

import (
	"bytes"
	"math"
	"slices"
	"testing"

	"linkhouse/api"
	"linkhouse/encode"
	"linkhouse/isa"
)

// expectDecode decodes at an offset and compares all results.
func expectDecode(t *testing.T, table []api.Form, code []byte, at int, want api.Ins, size int, fault api.Fault) {
	t.Helper()
	gotIns, gotSize, gotFault := encode.Decode(table, code, at)
	if !same(gotIns, want) || gotSize != size || gotFault != fault {
		t.Fatalf("%v at %d: got %v %d %v, want %v %d %v", code, at, gotIns, gotSize, gotFault, want, size, fault)
	}
}

// TestDecode decodes each sample alone, between other bytes, and at the end of the code.
func TestDecode(t *testing.T) {
	for _, s := range samples() {
		expectDecode(t, s.table, s.code, 0, s.ins, len(s.code), api.Fault{})
		for _, other := range []byte{0, 255} {
			front := slices.Repeat([]byte{other}, 3)
			expectDecode(t, s.table, slices.Concat(s.code, front), 0, s.ins, len(s.code), api.Fault{})
			expectDecode(t, s.table, slices.Concat(front, s.code), 3, s.ins, len(s.code), api.Fault{})
			expectDecode(t, s.table, slices.Concat(front, s.code, front), 3, s.ins, len(s.code), api.Fault{})
		}
	}
}

// TestDecodeTruncated ends the code within each sample; bytes behind the end, in the spare capacity, do not count.
func TestDecodeTruncated(t *testing.T) {
	for _, s := range samples() {
		code := append([]byte{1, 2}, s.code...)
		for end := 3; end < len(code); end++ {
			expectDecode(t, s.table, code[:end], 2, api.Ins{}, 0, invalid(api.ErrCorrupt, 2))
		}
	}
}

func TestDecodeOffsets(t *testing.T) {
	code := []byte{7, 7, 7}
	for at := range 3 {
		expectDecode(t, small(), code, at, ins(0), 1, api.Fault{})
	}
	for _, at := range []int{-1, -2, 3, 4, math.MinInt, math.MaxInt} {
		expectDecode(t, small(), code, at, api.Ins{}, 0, invalid(api.ErrRange, -5))
	}
	for _, empty := range [][]byte{nil, {}, code[:0]} {
		expectDecode(t, small(), empty, 0, api.Ins{}, 0, invalid(api.ErrRange, -5))
	}
}

func TestDecodeLongCode(t *testing.T) {
	code := slices.Repeat([]byte{7}, api.MaxData+1)
	expectDecode(t, small(), code[:api.MaxData], api.MaxData-1, ins(0), 1, api.Fault{})
	for _, at := range []int{-1, 0, api.MaxData + 1} {
		expectDecode(t, small(), code, at, api.Ins{}, 0, invalid(api.ErrTooMany, -4))
	}
}

func TestDecodeWithoutForms(t *testing.T) {
	for _, table := range [][]api.Form{nil, {}} {
		expectDecode(t, table, []byte{0, 0}, 1, api.Ins{}, 0, invalid(api.ErrCorrupt, 1))
	}
}

// TestDecodeOrder removes the errors of a call one after the other, in the order in which they are checked.
func TestDecodeOrder(t *testing.T) {
	long := make([]byte, api.MaxData+1)
	invalidTable := []api.Form{{Name: ""}}
	expectDecode(t, invalidTable, long, -1, api.Ins{}, 0, invalid(api.ErrName, 0))
	expectDecode(t, small(), long, -1, api.Ins{}, 0, invalid(api.ErrTooMany, -4))
	expectDecode(t, small(), long[1:], -1, api.Ins{}, 0, invalid(api.ErrRange, -5))
	expectDecode(t, small(), long[1:], api.MaxData-1, api.Ins{}, 0, invalid(api.ErrCorrupt, api.MaxData-1))
	expectDecode(t, small(), long[1:], api.MaxData-2, ins(2, 0, 0), 2, api.Fault{})
}

// wantSmall is what a table with forms of at most two bytes, here small, finds in a byte and the byte behind it, by the rules of R2.1 for each of its forms.
func wantSmall(code, next byte) (api.Ins, int) {
	low, high := int(next%16), int(next/16)
	switch {
	case code == 7:
		return ins(0), 1
	case code == 255 && low <= 7 && high == 0:
		return ins(1, low), 2
	case code == 0 && low <= 3 && high <= 7:
		return ins(2, low, high), 2
	case code == 128:
		return ins(4, int(int8(next))), 2
	}
	return api.Ins{}, 0
}

// TestDecodePairs decodes all pairs of bytes, of which a form of three bytes is never found.
func TestDecodePairs(t *testing.T) {
	for first := range 256 {
		for second := range 256 {
			code := []byte{7, byte(first), byte(second)}
			want, size := wantSmall(code[1], code[2])
			fault := api.Fault{}
			if size == 0 {
				fault = invalid(api.ErrCorrupt, 1)
			}
			expectDecode(t, small(), code, 1, want, size, fault)
		}
	}
}

// TestDecodeNibbles decodes all bytes of three registers, of which the last one leaves four bits unused, with a number behind them.
func TestDecodeNibbles(t *testing.T) {
	table := []api.Form{{Name: "a", Code: 50, Kinds: []int{api.OperandReg, api.OperandVec, api.OperandByte, api.OperandReg}}}
	for first := range 256 {
		for second := range 256 {
			want, size, fault := api.Ins{}, 0, invalid(api.ErrCorrupt, 0)
			if first%16 <= 7 && first/16 <= 3 && second <= 7 {
				want, size, fault = ins(0, first%16, first/16, -16, second), 4, api.Fault{}
			}
			expectDecode(t, table, []byte{50, byte(first), byte(second), 0xf0}, 0, want, size, fault)
		}
	}
}

// TestDecodeNumbers decodes all numbers of two bytes, and words that have all their bits somewhere.
func TestDecodeNumbers(t *testing.T) {
	table := []api.Form{
		{Name: "n", Code: 1, Kinds: []int{api.OperandNear}},
		{Name: "w", Code: 2, Kinds: []int{api.OperandWord}},
	}
	for n := range 65536 {
		expectDecode(t, table, []byte{1, byte(n), byte(n >> 8)}, 0, ins(0, int(int16(n))), 3, api.Fault{})
	}
	for shift := range 32 {
		for _, word := range []uint32{1 << shift, ^uint32(1 << shift), math.MaxUint32 << shift, math.MaxUint32 >> shift} {
			code := []byte{2, byte(word), byte(word >> 8), byte(word >> 16), byte(word >> 24)}
			expectDecode(t, table, code, 0, ins(1, int(word)), 5, api.Fault{})
		}
	}
}

// values are arguments of a kind, among them its limits.
func values(kind int) []int {
	l := limits()[kind-1]
	return []int{l.low, l.low + 1, (l.low + l.high) / 2, l.high - 1, l.high}
}

// argumentLists calls use with all lists of values of the kinds.
func argumentLists(kinds []int, use func(args []int)) {
	var extend func(args []int)
	extend = func(args []int) {
		if len(args) == len(kinds) {
			use(args)
			return
		}
		for _, value := range values(kinds[len(args)]) {
			extend(append(slices.Clone(args), value))
		}
	}
	extend(nil)
}

// TestInverse encodes instructions of all forms of the default table with many arguments, and decodes them again.
func TestInverse(t *testing.T) {
	table := isa.Default()
	for number, form := range table {
		size, _ := isa.Size(table, number)
		argumentLists(form.Kinds, func(args []int) {
			code, fault := encode.Encode(table, ins(number, args...))
			if len(code) != size || fault != (api.Fault{}) || code[0] != byte(form.Code) {
				t.Fatalf("%s %v: got %v %v, want %d bytes", form.Name, args, code, fault, size)
			}
			expectDecode(t, table, code, 0, ins(number, args...), size, api.Fault{})
		})
	}
}

// TestDefaultCodes decodes all first bytes with the default table, of which those of no form are not found.
func TestDefaultCodes(t *testing.T) {
	table := isa.Default()
	for first := range 256 {
		code := append([]byte{byte(first)}, bytes.Repeat([]byte{0}, 20)...)
		number := slices.IndexFunc(table, func(form api.Form) bool { return form.Code == first })
		if number < 0 {
			expectDecode(t, table, code, 0, api.Ins{}, 0, invalid(api.ErrCorrupt, 0))
			continue
		}
		size, _ := isa.Size(table, number)
		expectDecode(t, table, code, 0, ins(number, make([]int, len(table[number].Kinds))...), size, api.Fault{})
	}
}
