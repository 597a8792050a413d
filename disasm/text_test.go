package disasm_test

import (
	"math"
	"testing"

	"linkhouse/api"
	"linkhouse/disasm"
	"linkhouse/encode"
	"linkhouse/isa"
)

// expectText makes the text of an instruction and compares both results.
func expectText(t *testing.T, table []api.Form, i api.Ins, want string, fault api.Fault) {
	t.Helper()
	got, gotFault := disasm.Text(table, i)
	if got != want || gotFault != fault {
		t.Fatalf("%v: got %q %v, want %q %v", i, got, gotFault, want, fault)
	}
}

func TestText(t *testing.T) {
	for _, s := range samples() {
		expectText(t, s.table, s.ins, s.text, api.Fault{})
	}
}

// TestTextLimits writes the smallest and the greatest argument of each kind, and rejects those next to them, with an operand in front so that the position is not 0.
func TestTextLimits(t *testing.T) {
	for _, l := range limits() {
		table := single("a", octet, l.kind)
		expectText(t, table, ins(0, -1, l.low), "a -1, "+l.lowText, api.Fault{})
		expectText(t, table, ins(0, -1, l.high), "a -1, "+l.highText, api.Fault{})
		for _, arg := range []int{l.low - 1, l.high + 1, math.MinInt, math.MaxInt} {
			expectText(t, table, ins(0, -1, arg), "", invalid(api.ErrRange, 1))
		}
	}
}

// TestTextNumbers writes 0 and the numbers next to it with and without a sign.
func TestTextNumbers(t *testing.T) {
	for kind, texts := range map[int][3]string{
		octet: {"a -1", "a +0", "a +1"},
		short: {"a short -1", "a short +0", "a short +1"},
		near:  {"a near -1", "a near +0", "a near +1"},
		word:  {"", "a 0", "a 1"},
		reg:   {"", "a r0", "a r1"},
		vec:   {"", "a v0", "a v1"},
	} {
		for n, text := range texts {
			fault := api.Fault{}
			if text == "" {
				fault = invalid(api.ErrRange, 0)
			}
			expectText(t, single("a", kind), ins(0, n-1), text, fault)
		}
	}
}

func TestTextNilArguments(t *testing.T) {
	for _, args := range [][]int{nil, {}} {
		expectText(t, isa.Default(), api.Ins{Form: api.Ret, Args: args}, "ret", api.Fault{})
		expectText(t, isa.Default(), api.Ins{Form: api.Add, Args: args}, "", invalid(api.ErrLength, -3))
	}
}

// TestTextOrder removes the errors of a call one after the other, in the order in which they are checked.
func TestTextOrder(t *testing.T) {
	bad := 1000
	expectText(t, single("a", 9), ins(-1, bad), "", invalid(api.ErrKind, 0))
	expectText(t, small(), ins(-1, bad), "", invalid(api.ErrRange, -2))
	expectText(t, small(), ins(len(small()), bad), "", invalid(api.ErrRange, -2))
	expectText(t, small(), ins(3, bad, bad, bad), "", invalid(api.ErrLength, -3))
	expectText(t, small(), ins(3, bad), "", invalid(api.ErrLength, -3))
	expectText(t, small(), ins(3, bad, bad), "", invalid(api.ErrRange, 0))
	expectText(t, small(), ins(3, 1, bad), "", invalid(api.ErrRange, 1))
	expectText(t, small(), ins(3, 1, 2), "x short +1, v2", api.Fault{})
}

func TestTextRejectsForms(t *testing.T) {
	for _, table := range [][]api.Form{nil, {}, small(), isa.Default()} {
		for _, number := range []int{-1, -2, len(table), len(table) + 1, math.MinInt, math.MaxInt} {
			expectText(t, table, ins(number), "", invalid(api.ErrRange, -2))
		}
	}
}

// TestTextFaults compares the faults with those of encode.Encode, for instructions of which most are invalid.
func TestTextFaults(t *testing.T) {
	for _, table := range [][]api.Form{nil, small(), related(), isa.Default()} {
		for number := -1; number <= len(table); number++ {
			for count := range 6 {
				for _, arg := range []int{-40000, -200, -1, 0, 3, 4, 8, 200, 40000, 1 << 40} {
					args := make([]int, count)
					for n := range args {
						args[n] = arg
					}
					_, want := encode.Encode(table, ins(number, args...))
					if text, got := disasm.Text(table, ins(number, args...)); got != want || (text == "") != (got != api.Fault{}) {
						t.Fatalf("form %d, arguments %v: got %q %v, want %v", number, args, text, got, want)
					}
				}
			}
		}
	}
}
