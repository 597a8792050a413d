package disasm_test

import (
	"regexp"
	"slices"
	"strconv"
	"strings"
	"testing"

	"linkhouse/api"
	"linkhouse/disasm"
	"linkhouse/isa"
)

// expectRead reads a text and compares both results.
func expectRead(t *testing.T, table []api.Form, text string, want api.Ins, fault api.Fault) {
	t.Helper()
	got, gotFault := disasm.Read(table, text)
	if !same(got, want) || gotFault != fault {
		t.Fatalf("%q: got %v %v, want %v %v", text, got, gotFault, want, fault)
	}
}

// rejected is the fault of a text that is not the text of an instruction.
var rejected = invalid(api.ErrSyntax, -5)

func TestRead(t *testing.T) {
	for _, s := range samples() {
		expectRead(t, s.table, s.text, s.ins, api.Fault{})
	}
}

// TestReadEverything reads the texts of instructions of all forms of the default table with many arguments.
func TestReadEverything(t *testing.T) {
	table := isa.Default()
	for number, form := range table {
		argumentLists(form.Kinds, func(args []int) {
			text, _ := disasm.Text(table, ins(number, args...))
			expectRead(t, table, text, ins(number, args...), api.Fault{})
		})
	}
}

func TestReadRejects(t *testing.T) {
	for _, text := range []string{
		"", " ", ",", ", ", "r1", "+5", "5", "short +5",
		"halt ", " halt", "halt,", "halt, ", "halt\n", "halt\x00", "halt  ", "halt r1", "halt +0", "halt 0",
		"Halt", "HALT", "hal", "haltt", "halts", "h alt", "ha lt", "\"halt\"", "h\u0430lt",
		"add", "add ", "add r1", "add r1,", "add r1, ", "add r1, r2,", "add r1, r2, ", "add r1, r2, r3", "add r1, r2, r3, r4, r5",
		"add r1 r2", "add r1,r2", "add r1 , r2", "add r1,  r2", "add  r1, r2", "add r1, r2 ", " add r1, r2", "add, r1, r2",
		"add , r2", "add r1, , r2", "add\tr1, r2", "add r1,\tr2", "add r1,\nr2", "add r1\u00a0, r2", "add r1; r2", "addr1, r2",
		"add R1, r2", "add r1, R2", "add r, r2", "add r1, r", "add 1, 2", "add r1, 2", "add r1, +2", "add r1, v2", "add v1, v2",
		"add r01, r2", "add r1, r00", "add r+1, r2", "add r-1, r2", "add r1, r-0", "add r 1, r2", "add r8, r2", "add r1, r8",
		"add r1, r10", "add r1, r0x1", "add r1, r1_0", "add r1, r1.0", "add r1, r1e0", "add r1, rr1", "add r1, r\u0661", "add r1, r\uff11",
		"add r1, r18446744073709551616", "add r1, r9223372036854775808", "add r18446744073709551617, r0",
		"vadd v4, v0", "vadd v0, v4", "vadd v00, v1", "vadd v-1, v0", "vadd v0", "vadd r0, r1", "vload r0, v0",
		"load r1, r2, 4", "load r1, r2, 0", "load r1, r2, -0", "load r1, r2, +", "load r1, r2, -", "load r1, r2, ", "load r1, r2",
		"load r1, r2, +04", "load r1, r2, -04", "load r1, r2, +00", "load r1, r2, ++4", "load r1, r2, +-4", "load r1, r2, -+4", "load r1, r2, --4",
		"load r1, r2, + 4", "load r1, r2, 4+", "load r1, r2, +128", "load r1, r2, -129", "load r1, r2, +256", "load r1, r2, +260",
		"load r1, r2, \u22124", "load r1, r2, +4h", "load r1, r2, +0x4", "load r1, r2, +18446744073709551620", "load r1, r2, short +4",
		"set r1, +5", "set r1, -5", "set r1, +0", "set r1, -0", "set r1, 05", "set r1, 00", "set r1, 0x5", "set r1, 5.0", "set r1, 1_000", "set r1, 1,000",
		"set r1, 4294967296", "set r1, 9223372036854775807", "set r1, 9223372036854775808", "set r1, 18446744073709551621", "set r1, -1", "set r1, r5",
		"jump", "jump 5", "jump +5", "jump short 5", "jump near 5", "jump short", "jump near", "jump short ", "jump near ", "jump r5", "jump short r5",
		"jump short  +5", "jump  short +5", "jump short +5 ", "jump short, +5", "jump short+5", "jump near+5", "jump nearshort +5", "jump far +5",
		"jump short +128", "jump short -129", "jump near +32768", "jump near -32769", "jump short +05", "jump near -0", "jump Short +5", "jump shor +5",
		"jump near +5, near +5", "jump short +5, short +5", "jump near near +5", "jump +5 near", "jump near +65536",
		"call +5", "call short +5", "lea r1, +5", "lea r1, short +5", "lea near +5, r1", "jeq near", "sys 5", "sys", "sys +5, +5",
	} {
		expectRead(t, isa.Default(), text, api.Ins{}, rejected)
	}
}

// TestReadLimits reads the smallest and the greatest argument of each kind, and rejects those next to them, which are written in the same way.
func TestReadLimits(t *testing.T) {
	for _, l := range limits() {
		table := single("a", octet, l.kind)
		expectRead(t, table, "a -1, "+l.lowText, ins(0, -1, l.low), api.Fault{})
		expectRead(t, table, "a -1, "+l.highText, ins(0, -1, l.high), api.Fault{})
	}
	for kind, operands := range map[int][]string{
		reg:   {"r-1", "r8"},
		vec:   {"v-1", "v4"},
		octet: {"-129", "+128"},
		word:  {"-1", "4294967296"},
		short: {"short -129", "short +128"},
		near:  {"near -32769", "near +32768"},
	} {
		for _, operand := range operands {
			expectRead(t, single("a", octet, kind), "a -1, "+operand, api.Ins{}, rejected)
		}
	}
}

// TestReadNames reads the same operands with names that share a beginning.
func TestReadNames(t *testing.T) {
	for _, text := range []string{"ad r1", "a r1", "addbb r1", "add", "addb", "a", "ad +0, -10", "shortnear short +9", "near short +9, r0", "short near +9", "v r2", "r v2", "v", "short", "short +9", "r2", "near -9, r0"} {
		expectRead(t, related(), text, api.Ins{}, rejected)
	}
}

// TestReadForms reads a text with tables in which its form is missing, or another form has its name.
func TestReadForms(t *testing.T) {
	for _, table := range [][]api.Form{nil, {}, single("b"), single("a", reg), single("aa")} {
		expectRead(t, table, "a", api.Ins{}, rejected)
	}
	table := small()
	for number := range table {
		rest := slices.Delete(slices.Clone(table), number, number+1)
		for _, s := range samples() {
			if s.text[0] == 'x' && s.ins.Form == number {
				expectRead(t, rest, s.text, api.Ins{}, rejected)
			}
		}
	}
}

func TestReadLongTexts(t *testing.T) {
	for _, fill := range []string{" ", "x", "0", "+", "x r1, ", "r1, ", ", ", "x ", "\xff"} {
		text := strings.Repeat(fill, api.MaxText+1)
		expectRead(t, small(), text[:api.MaxText], api.Ins{}, rejected)
		expectRead(t, small(), text[:api.MaxText+1], api.Ins{}, invalid(api.ErrTooMany, -4))
		expectRead(t, small(), "x "+text[:api.MaxText-2], api.Ins{}, rejected)
		expectRead(t, small(), "x "+text[:api.MaxText-1], api.Ins{}, invalid(api.ErrTooMany, -4))
	}
}

// TestReadOrder removes the errors of a call one after the other, in the order in which they are checked.
func TestReadOrder(t *testing.T) {
	text := strings.Repeat("?", api.MaxText+1)
	expectRead(t, single("A"), text, api.Ins{}, invalid(api.ErrName, 0))
	expectRead(t, single("A"), "A", api.Ins{}, invalid(api.ErrName, 0))
	expectRead(t, small(), text, api.Ins{}, invalid(api.ErrTooMany, -4))
	expectRead(t, small(), text[1:], api.Ins{}, rejected)
	expectRead(t, small(), "x r1", ins(1, 1), api.Fault{})
}

// argument reads an operand of a kind as R3.2 describes it, by a regular expression and the range of the kind.
func argument(kind int, text string) (int, bool) {
	pattern := []string{
		`^r([0-7])$`, `^v([0-3])$`, `^(\+0|[+-][1-9][0-9]*)$`, `^(0|[1-9][0-9]*)$`, `^short (\+0|[+-][1-9][0-9]*)$`, `^near (\+0|[+-][1-9][0-9]*)$`,
	}[kind-1]
	match := regexp.MustCompile(pattern).FindStringSubmatch(text)
	if match == nil {
		return 0, false
	}
	number, err := strconv.ParseInt(match[1], 10, 64)
	l := limits()[kind-1]
	return int(number), err == nil && l.low <= int(number) && int(number) <= l.high
}

// wantRead tries all forms of a table.
func wantRead(table []api.Form, text string) (api.Ins, api.Fault) {
	for number, form := range table {
		operands, found := strings.CutPrefix(text, form.Name)
		if len(form.Kinds) == 0 && found && operands == "" {
			return ins(number), api.Fault{}
		}
		operands, space := strings.CutPrefix(operands, " ")
		parts := strings.Split(operands, ", ")
		if !found || !space || len(parts) != len(form.Kinds) {
			continue
		}
		args, valid := []int{}, true
		for n, part := range parts {
			arg, ok := argument(form.Kinds[n], part)
			args, valid = append(args, arg), valid && ok
		}
		if valid {
			return ins(number, args...), api.Fault{}
		}
	}
	return api.Ins{}, rejected
}

// edits calls use with the texts that differ from a text by a byte that is left out, inserted or replaced, or by two neighbours that are exchanged.
func edits(text string, use func(string)) {
	const others = " ,+-019rvxnsa\x00\xff"
	for k := range len(text) + 1 {
		for _, other := range []byte(others) {
			use(text[:k] + string([]byte{other}) + text[k:])
			if k < len(text) {
				use(text[:k] + string([]byte{other}) + text[k+1:])
			}
		}
		if k < len(text) {
			use(text[:k] + text[k+1:])
		}
		if k+1 < len(text) {
			use(text[:k] + text[k+1:k+2] + text[k:k+1] + text[k+2:])
		}
	}
}

// TestReadEdited changes each sample in many ways, of which some lead to the texts of other instructions.
func TestReadEdited(t *testing.T) {
	for _, s := range samples() {
		if len(s.table) == api.Forms {
			s.table = s.table[s.ins.Form : s.ins.Form+1]
		}
		edits(s.text, func(text string) {
			want, fault := wantRead(s.table, text)
			expectRead(t, s.table, text, want, fault)
		})
	}
}
