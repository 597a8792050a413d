package encode_test

import (
	"bytes"
	"math"
	"slices"
	"testing"

	"linkhouse/api"
	"linkhouse/encode"
	"linkhouse/isa"
)

func TestEncode(t *testing.T) {
	for _, s := range samples() {
		got, fault := encode.Encode(s.table, s.ins)
		if !bytes.Equal(got, s.code) || fault != (api.Fault{}) {
			t.Errorf("%v: got %v %v, want %v", s.ins, got, fault, s.code)
		}
	}
}

// TestEncodeLimits encodes the smallest and the greatest argument of each kind, and rejects those next to them, with an operand in front so that the position is not 0.
func TestEncodeLimits(t *testing.T) {
	for _, l := range limits() {
		table := []api.Form{{Name: "a", Code: 200, Kinds: []int{api.OperandByte, l.kind}}}
		for _, c := range []struct {
			arg  int
			want api.Fault
		}{
			{l.low, api.Fault{}},
			{l.high, api.Fault{}},
			{0, api.Fault{}},
			{l.low - 1, invalid(api.ErrRange, 1)},
			{l.high + 1, invalid(api.ErrRange, 1)},
			{math.MinInt, invalid(api.ErrRange, 1)},
			{math.MaxInt, invalid(api.ErrRange, 1)},
		} {
			got, fault := encode.Encode(table, ins(0, -1, c.arg))
			if fault != c.want || fault != (api.Fault{}) && got != nil {
				t.Errorf("kind %d, argument %d: got %v %v, want %v", l.kind, c.arg, got, fault, c.want)
			}
		}
	}
}

// TestEncodeFirstArgument makes all sets of arguments of a form invalid: the first one of them is reported, by the order of the operands and not of the bytes.
func TestEncodeFirstArgument(t *testing.T) {
	table := []api.Form{{Name: "a", Code: 1, Kinds: []int{api.OperandByte, api.OperandReg, api.OperandNear, api.OperandVec}}}
	for set := 1; set < 16; set++ {
		args, want := []int{1, 2, 3, 1}, -1
		for n := 3; n >= 0; n-- {
			if set>>n&1 == 1 {
				args[n], want = 40000, n
			}
		}
		if got, fault := encode.Encode(table, ins(0, args...)); got != nil || fault != invalid(api.ErrRange, want) {
			t.Errorf("%v: got %v %v, want position %d", args, got, fault, want)
		}
	}
}

// TestEncodeOrder removes the errors of a call one after the other, in the order in which they are checked.
func TestEncodeOrder(t *testing.T) {
	bad := 1000
	for _, c := range []struct {
		table []api.Form
		ins   api.Ins
		want  api.Fault
	}{
		{[]api.Form{{Name: "a", Kinds: []int{9}}}, ins(-1, bad), invalid(api.ErrKind, 0)},
		{small(), ins(-1, bad), invalid(api.ErrRange, -2)},
		{small(), ins(len(small()), bad), invalid(api.ErrRange, -2)},
		{small(), ins(1, bad, bad), invalid(api.ErrLength, -3)},
		{small(), ins(1, bad), invalid(api.ErrRange, 0)},
		{small(), ins(1, 1), api.Fault{}},
	} {
		if _, fault := encode.Encode(c.table, c.ins); fault != c.want {
			t.Errorf("%v: got %v, want %v", c.ins, fault, c.want)
		}
	}
}

func TestEncodeRejectsForms(t *testing.T) {
	for _, table := range [][]api.Form{nil, {}, small(), isa.Default()} {
		for _, form := range []int{-1, -2, len(table), len(table) + 1, math.MinInt, math.MaxInt} {
			if got, fault := encode.Encode(table, ins(form)); got != nil || fault != invalid(api.ErrRange, -2) {
				t.Errorf("form %d of %d: got %v %v", form, len(table), got, fault)
			}
		}
	}
}

// TestEncodeRejectsLengths gives each form of the default table all numbers of arguments except the right one.
func TestEncodeRejectsLengths(t *testing.T) {
	table := isa.Default()
	for number, form := range table {
		for n := range 7 {
			_, fault := encode.Encode(table, ins(number, make([]int, n)...))
			if n != len(form.Kinds) && fault != invalid(api.ErrLength, -3) || n == len(form.Kinds) && fault != (api.Fault{}) {
				t.Errorf("%s with %d arguments: got %v", form.Name, n, fault)
			}
		}
	}
}

func TestEncodeNilArguments(t *testing.T) {
	for _, args := range [][]int{nil, {}} {
		got, fault := encode.Encode(isa.Default(), api.Ins{Form: api.Ret, Args: args})
		if !bytes.Equal(got, []byte{29}) || fault != (api.Fault{}) {
			t.Errorf("%#v: got %v %v", args, got, fault)
		}
		if _, fault := encode.Encode(isa.Default(), api.Ins{Form: api.Add, Args: args}); fault != invalid(api.ErrLength, -3) {
			t.Errorf("%#v: got %v", args, fault)
		}
	}
}

// TestValidatesFirst checks that all functions report the errors of the table first, whatever else is wrong.
func TestValidatesFirst(t *testing.T) {
	for want, table := range broken() {
		for _, at := range []int{-1, 0, 1} {
			for _, code := range [][]byte{nil, {1}, make([]byte, api.MaxData+1)} {
				if got, fault := encode.Encode(table, ins(at, 99)); got != nil || fault != want {
					t.Errorf("Encode: got %v %v, want %v", got, fault, want)
				}
				if got, size, fault := encode.Decode(table, code, at); !same(got, api.Ins{}) || size != 0 || fault != want {
					t.Errorf("Decode: got %v %d %v, want %v", got, size, fault, want)
				}
				if got, fault := encode.Patch(table, code, at, -1, 99); got != nil || fault != want {
					t.Errorf("Patch: got %v %v, want %v", got, fault, want)
				}
			}
		}
	}
}

// TestNoAliasing checks that arguments, with their spare capacity, stay as they are, and that results are new memory.
func TestNoAliasing(t *testing.T) {
	back := []api.Form{
		{Name: "a", Code: 9, Kinds: []int{api.OperandReg, api.OperandByte, 99}[:2]},
		{Name: "b", Code: 400, Kinds: []int{77}},
	}
	table := back[:1]
	args := []int{3, -2, 55}[:2]
	code := []byte{0, 9, 3, 254, 66}[:4]
	encoded, _ := encode.Encode(table, api.Ins{Args: args})
	decoded, _, _ := encode.Decode(table, code, 1)
	patched, _ := encode.Patch(table, code, 1, 0, 4)
	if len(encoded) == 0 || len(decoded.Args) == 0 || len(patched) == 0 {
		t.Fatal("no results")
	}
	again, _ := encode.Patch(table, code, 1, 0, 5)
	for _, b := range [][]byte{encoded, patched} {
		overwrite(b[:cap(b)])
	}
	overwrite(decoded.Args[:cap(decoded.Args)])
	if !bytes.Equal(code[:5], []byte{0, 9, 3, 254, 66}) || !slices.Equal(args[:3], []int{3, -2, 55}) {
		t.Error("an argument has changed")
	}
	if !slices.Equal(back[0].Kinds[:3], []int{1, 3, 99}) || back[0].Code != 9 || back[1].Code != 400 || back[1].Kinds[0] != 77 {
		t.Error("the table has changed")
	}
	if !bytes.Equal(again, []byte{0, 9, 5, 254}) {
		t.Errorf("results share memory: %v", again)
	}
}

// overwrite changes all elements of a list.
func overwrite[T byte | int](l []T) {
	for k := range l {
		l[k] ^= 85
	}
}
