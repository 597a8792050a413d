package disasm_test

import (
	"bytes"
	"math/rand"
	"slices"
	"testing"

	"linkhouse/api"
	"linkhouse/disasm"
	"linkhouse/encode"
	"linkhouse/isa"
)

// located returns an instruction at an offset.
func located(at, size, form int, args ...int) api.Located {
	return api.Located{At: at, Size: size, Ins: ins(form, args...)}
}

// expectAll lists code and compares both results.
func expectAll(t *testing.T, table []api.Form, code []byte, want []api.Located, fault api.Fault) {
	t.Helper()
	got, gotFault := disasm.All(table, code)
	equal := slices.EqualFunc(got, want, func(a, b api.Located) bool {
		return a.At == b.At && a.Size == b.Size && same(a.Ins, b.Ins)
	})
	if !equal || gotFault != fault {
		t.Fatalf("%v: got %v %v, want %v %v", code, got, gotFault, want, fault)
	}
}

func TestAll(t *testing.T) {
	for _, c := range []struct {
		table []api.Form
		code  []byte
		want  []api.Located
	}{
		{isa.Default(), []byte{88, 33, 48}, []api.Located{located(0, 2, api.Add, 1, 2), located(2, 1, api.Nop)}},
		{isa.Default(), []byte{48}, []api.Located{located(0, 1, api.Nop)}},
		{isa.Default(), []byte{11, 11, 29}, []api.Located{located(0, 1, api.Halt), located(1, 1, api.Halt), located(2, 1, api.Ret)}},
		{isa.Default(), []byte{14, 3, 48, 88, 33, 48, 242, 128, 23, 254, 255}, []api.Located{
			located(0, 6, api.Set, 3, 0x30215830), located(6, 2, api.JumpShort, -128), located(8, 3, api.JumpNear, -2),
		}},
		{isa.Default(), []byte{20, 0x21, 4, 143, 0x21, 3}, []api.Located{located(0, 3, api.Load, 1, 2, 4), located(3, 3, api.Cas, 1, 2, 3)}},
		{small(), []byte{255, 7, 7, 0, 0x73, 8, 2, 250, 128, 128}, []api.Located{
			located(0, 2, 1, 7), located(2, 1, 0), located(3, 2, 2, 3, 7), located(5, 3, 3, -6, 2), located(8, 2, 4, -128),
		}},
	} {
		expectAll(t, c.table, c.code, c.want, api.Fault{})
	}
}

// TestAllNothing lists no code, which is valid with every table.
func TestAllNothing(t *testing.T) {
	for _, table := range [][]api.Form{nil, {}, small(), isa.Default()} {
		for _, code := range [][]byte{nil, {}, make([]byte, 5)[:0]} {
			expectAll(t, table, code, nil, api.Fault{})
		}
	}
}

func TestAllWithoutForms(t *testing.T) {
	for _, table := range [][]api.Form{nil, {}} {
		expectAll(t, table, []byte{0, 1}, nil, invalid(api.ErrCorrupt, 0))
	}
}

// TestAllEverything lists instructions of all forms of the default table, one behind the other.
func TestAllEverything(t *testing.T) {
	table := isa.Default()
	var code []byte
	var want []api.Located
	finish := func() {
		expectAll(t, table, code, want, api.Fault{})
		code, want = nil, nil
	}
	for number, form := range table {
		argumentLists(form.Kinds, func(args []int) {
			next, _ := encode.Encode(table, ins(number, args...))
			if len(code)+len(next) > api.MaxData {
				finish()
			}
			want = append(want, located(len(code), len(next), number, args...))
			code = append(code, next...)
		})
	}
	finish()
}

// TestAllCorrupt puts bytes that are no instruction at the beginning, between instructions, and at the end: the offset is that of the instruction, and not that of the byte that is wrong.
func TestAllCorrupt(t *testing.T) {
	for _, bad := range [][]byte{
		{1},             // no form has this code
		{255, 8},        // no register
		{255, 0x10},     // bits that belong to no operand
		{0, 0x04},       // no vector register
		{0, 0x80},       // no second register
		{8, 0x10, 1},    // bits behind a vector register
		{8, 0x04, 1},    // no vector register, with a number behind it
		{8, 4},          // truncated, where the byte behind it belongs to the same instruction
		{1, 1, 1, 1, 1}, // more than one
	} {
		for _, front := range [][]byte{nil, {7}, {255, 1, 7}, {9, 1, 1, 1, 1}} {
			for _, back := range [][]byte{nil, {7}, {1}} {
				expectAll(t, small(), slices.Concat(front, bad, back), nil, invalid(api.ErrCorrupt, len(front)))
			}
		}
	}
}

// TestAllTruncated ends the code within its last instruction; bytes behind the end, in the spare capacity, do not count.
func TestAllTruncated(t *testing.T) {
	for _, last := range [][]byte{{255, 1}, {0, 0}, {128, 5}, {8, 1, 1}, {10, 1, 2}, {9, 1, 2, 3, 4}} {
		code := append([]byte{7, 255, 2}, last...)
		if _, fault := disasm.All(small(), code); fault != (api.Fault{}) {
			t.Errorf("%v: got %v", code, fault)
		}
		for end := 4; end < len(code); end++ {
			expectAll(t, small(), code[:end], nil, invalid(api.ErrCorrupt, 3))
		}
	}
}

// TestAllFirstCorrupt has two offsets without an instruction.
func TestAllFirstCorrupt(t *testing.T) {
	expectAll(t, small(), []byte{7, 255, 1, 1, 7, 1}, nil, invalid(api.ErrCorrupt, 3))
	expectAll(t, small(), []byte{7, 255, 1, 7, 7, 255}, nil, invalid(api.ErrCorrupt, 5))
}

// TestAllSkipsOperands has bytes within instructions that are no instructions by themselves.
func TestAllSkipsOperands(t *testing.T) {
	expectAll(t, small(), []byte{9, 1, 1, 1, 1, 128, 1}, []api.Located{located(0, 5, 5, 0x01010101), located(5, 2, 4, 1)}, api.Fault{})
}

func TestAllLongCode(t *testing.T) {
	code := bytes.Repeat([]byte{7}, api.MaxData+1)
	var want []api.Located
	for at := range api.MaxData {
		want = append(want, located(at, 1, 0))
	}
	expectAll(t, small(), code[:api.MaxData], want, api.Fault{})
	expectAll(t, small(), code, nil, invalid(api.ErrTooMany, -4))
	code[api.MaxData-1] = 255
	expectAll(t, small(), code[:api.MaxData], nil, invalid(api.ErrCorrupt, api.MaxData-1))
}

// TestAllOrder removes the errors of a call one after the other, in the order in which they are checked.
func TestAllOrder(t *testing.T) {
	code := bytes.Repeat([]byte{1}, api.MaxData+1)
	expectAll(t, single(""), code, nil, invalid(api.ErrName, 0))
	expectAll(t, single(""), nil, nil, invalid(api.ErrName, 0))
	expectAll(t, small(), code, nil, invalid(api.ErrTooMany, -4))
	expectAll(t, small(), code[1:], nil, invalid(api.ErrCorrupt, 0))
	expectAll(t, small(), []byte{7, 1}, nil, invalid(api.ErrCorrupt, 1))
}

// wantAll is R3.1 word for word.
func wantAll(table []api.Form, code []byte) ([]api.Located, api.Fault) {
	var all []api.Located
	for at := 0; at < len(code); {
		i, size, fault := encode.Decode(table, code, at)
		if fault != (api.Fault{}) {
			return nil, invalid(api.ErrCorrupt, at)
		}
		all = append(all, api.Located{At: at, Size: size, Ins: i})
		at += size
	}
	return all, api.Fault{}
}

// TestAllCodes lists code that begins with each byte, and code of many other bytes, and compares the results with those of encode.Decode.
func TestAllCodes(t *testing.T) {
	source := rand.New(rand.NewSource(1))
	for _, table := range [][]api.Form{small(), related(), isa.Default()} {
		for first := range 256 {
			for range 20 {
				code := make([]byte, source.Intn(12))
				for k := range code {
					code[k] = byte(table[source.Intn(len(table))].Code)
					if source.Intn(3) == 0 {
						code[k] = byte(source.Intn(256))
					}
				}
				code = append([]byte{byte(first)}, code...)
				want, fault := wantAll(table, code)
				expectAll(t, table, code, want, fault)
			}
		}
	}
}
