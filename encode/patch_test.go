package encode_test

import (
	"bytes"
	"math"
	"slices"
	"testing"

	"linkhouse/api"
	"linkhouse/encode"
	"linkhouse/isa"
)

// expectPatch patches and compares both results.
func expectPatch(t *testing.T, table []api.Form, code []byte, at, arg, value int, want []byte, fault api.Fault) {
	t.Helper()
	got, gotFault := encode.Patch(table, code, at, arg, value)
	if !bytes.Equal(got, want) || gotFault != fault {
		t.Fatalf("%v at %d, argument %d, value %d: got %v %v, want %v %v", code, at, arg, value, got, gotFault, want, fault)
	}
}

func TestPatch(t *testing.T) {
	table := []api.Form{
		{Name: "a", Code: 9, Kinds: []int{api.OperandByte, api.OperandReg, api.OperandNear, api.OperandVec}},
		{Name: "b", Code: 10, Kinds: []int{api.OperandReg, api.OperandWord}},
		{Name: "c", Code: 11, Kinds: []int{api.OperandShort}},
	}
	code := []byte{99, 9, 0x25, 255, 0x34, 0x12, 10, 7, 1, 2, 3, 4, 11, 128}
	for _, c := range []struct {
		at, arg, value int
		want           []byte
	}{
		{1, 0, 1, []byte{99, 9, 0x25, 1, 0x34, 0x12, 10, 7, 1, 2, 3, 4, 11, 128}},
		{1, 0, -128, []byte{99, 9, 0x25, 128, 0x34, 0x12, 10, 7, 1, 2, 3, 4, 11, 128}},
		{1, 1, 2, []byte{99, 9, 0x22, 255, 0x34, 0x12, 10, 7, 1, 2, 3, 4, 11, 128}},
		{1, 2, -2, []byte{99, 9, 0x25, 255, 254, 255, 10, 7, 1, 2, 3, 4, 11, 128}},
		{1, 3, 0, []byte{99, 9, 0x05, 255, 0x34, 0x12, 10, 7, 1, 2, 3, 4, 11, 128}},
		{1, 3, 2, code},
		{6, 0, 0, []byte{99, 9, 0x25, 255, 0x34, 0x12, 10, 0, 1, 2, 3, 4, 11, 128}},
		{6, 1, 0x80000000, []byte{99, 9, 0x25, 255, 0x34, 0x12, 10, 7, 0, 0, 0, 128, 11, 128}},
		{12, 0, 127, []byte{99, 9, 0x25, 255, 0x34, 0x12, 10, 7, 1, 2, 3, 4, 11, 127}},
	} {
		expectPatch(t, table, code, c.at, c.arg, c.value, c.want, api.Fault{})
	}
	expectPatch(t, isa.Default(), []byte{88, 33}, 0, 0, 3, []byte{88, 35}, api.Fault{})
}

// TestPatchEverything replaces each argument of each form of the default table, between other bytes, and compares the result with the encoding of the instruction that has the new argument.
func TestPatchEverything(t *testing.T) {
	table := isa.Default()
	front, back := []byte{255, 0}, []byte{0, 255}
	for number, form := range table {
		argumentLists(form.Kinds, func(args []int) {
			before, _ := encode.Encode(table, ins(number, args...))
			for arg, kind := range form.Kinds {
				for _, value := range values(kind) {
					changed := slices.Clone(args)
					changed[arg] = value
					after, _ := encode.Encode(table, ins(number, changed...))
					expectPatch(t, table, slices.Concat(front, before, back), 2, arg, value, slices.Concat(front, after, back), api.Fault{})
				}
			}
		})
	}
}

func TestPatchRejectsValues(t *testing.T) {
	for _, l := range limits() {
		table := []api.Form{{Name: "a", Code: 1, Kinds: []int{api.OperandByte, l.kind}}}
		code, _ := encode.Encode(table, ins(0, 5, 0))
		for _, value := range []int{l.low - 1, l.high + 1, math.MinInt, math.MaxInt} {
			expectPatch(t, table, code, 0, 1, value, nil, invalid(api.ErrFar, -7))
		}
	}
}

func TestPatchRejectsArguments(t *testing.T) {
	for _, arg := range []int{-1, 1, 2, math.MinInt, math.MaxInt} {
		expectPatch(t, small(), []byte{255, 5}, 0, arg, 1, nil, invalid(api.ErrRange, -6))
	}
	for _, arg := range []int{-1, 0, 1} {
		expectPatch(t, small(), []byte{7}, 0, arg, 0, nil, invalid(api.ErrRange, -6))
	}
}

// TestPatchOrder removes the errors of a call one after the other, in the order in which they are checked.
func TestPatchOrder(t *testing.T) {
	code := make([]byte, api.MaxData+1)
	far := 1000
	expectPatch(t, []api.Form{{Name: ""}}, code, -1, -1, far, nil, invalid(api.ErrName, 0))
	expectPatch(t, small(), code, -1, -1, far, nil, invalid(api.ErrTooMany, -4))
	code = code[1:]
	expectPatch(t, small(), code, -1, -1, far, nil, invalid(api.ErrRange, -5))
	expectPatch(t, small(), code, len(code), -1, far, nil, invalid(api.ErrRange, -5))
	expectPatch(t, small(), code, len(code)-1, -1, far, nil, invalid(api.ErrCorrupt, len(code)-1))
	expectPatch(t, small(), code, len(code)-2, -1, far, nil, invalid(api.ErrRange, -6))
	expectPatch(t, small(), code, len(code)-2, 0, far, nil, invalid(api.ErrFar, -7))
	want := slices.Clone(code)
	want[len(code)-1] = 0x70
	expectPatch(t, small(), code, len(code)-2, 1, 7, want, api.Fault{})
}

// TestPatchNothing patches code without an instruction at the offset.
func TestPatchNothing(t *testing.T) {
	expectPatch(t, small(), nil, 0, 0, 0, nil, invalid(api.ErrRange, -5))
	expectPatch(t, small(), []byte{7, 9}, 1, 0, 0, nil, invalid(api.ErrCorrupt, 1))
	expectPatch(t, small(), []byte{255, 8}, 0, 0, 0, nil, invalid(api.ErrCorrupt, 0))
	expectPatch(t, small(), []byte{255, 16}, 0, 0, 0, nil, invalid(api.ErrCorrupt, 0))
	expectPatch(t, nil, []byte{0}, 0, 0, 0, nil, invalid(api.ErrCorrupt, 0))
}
