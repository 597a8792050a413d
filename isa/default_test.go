package isa_test

import (
	"slices"
	"strconv"
	"strings"
	"testing"

	"linkhouse/api"
	"linkhouse/isa"
)

// wanted are the forms of the default table: number, name, operands and size, as the document and package api give them.
const wanted = `
0 halt - 1
1 nop - 1
2 break - 1
3 sys Byte 2
4 eret - 1
5 fence - 1
6 move Reg,Reg 2
7 set Reg,Word 6
8 setb Reg,Byte 3
9 add Reg,Reg 2
10 addb Reg,Byte 3
11 sub Reg,Reg 2
12 mul Reg,Reg 2
13 div Reg,Reg 2
14 and Reg,Reg 2
15 or Reg,Reg 2
16 xor Reg,Reg 2
17 shl Reg,Reg 2
18 shr Reg,Reg 2
19 cmp Reg,Reg 2
20 cmpb Reg,Byte 3
21 load Reg,Reg,Byte 3
22 store Reg,Reg,Byte 3
23 loadb Reg,Reg,Byte 3
24 storeb Reg,Reg,Byte 3
25 push Reg 2
26 pop Reg 2
27 jump Short 2
28 jump Near 3
29 jeq Short 2
30 jeq Near 3
31 jne Short 2
32 jne Near 3
33 jlt Short 2
34 jlt Near 3
35 jlo Short 2
36 jlo Near 3
37 jumpr Reg 2
38 jumpm Word 5
39 jumpa Word 5
40 call Near 3
41 callr Reg 2
42 ret - 1
43 lea Reg,Near 4
44 vload Vec,Reg 2
45 vstore Vec,Reg 2
46 vadd Vec,Vec 2
47 vmul Vec,Vec 2
48 vsum Reg,Vec 2
49 vset Vec,Reg 2
50 swap Reg,Reg 2
51 fetch Reg,Reg 2
52 cas Reg,Reg,Reg 3
53 tp Reg 2
54 trapv Reg 2
55 cause Reg 2
56 where Reg 2
57 skip Reg 2
58 count Word 5
`

// row is a row of wanted.
type row struct {
	number int
	name   string
	kinds  []int
	size   int
}

// rows are the rows of wanted.
func rows() []row {
	kind := map[string]int{"Reg": 1, "Vec": 2, "Byte": 3, "Word": 4, "Short": 5, "Near": 6}
	var l []row
	for line := range strings.Lines(strings.TrimPrefix(wanted, "\n")) {
		f := strings.Fields(line)
		number, _ := strconv.Atoi(f[0])
		size, _ := strconv.Atoi(f[3])
		r := row{number: number, name: f[1], size: size}
		for part := range strings.SplitSeq(f[2], ",") {
			if part != "-" {
				r.kinds = append(r.kinds, kind[part])
			}
		}
		l = append(l, r)
	}
	return l
}

func TestDefault(t *testing.T) {
	table := isa.Default()
	if len(table) != len(rows()) {
		t.Fatalf("got %d forms", len(table))
	}
	for k, want := range rows() {
		got := table[k]
		if k != want.number || got.Name != want.name || !slices.Equal(got.Kinds, want.kinds) {
			t.Errorf("form %d: got %v, want %v", k, got, want)
		}
	}
}

// TestDefaultCodes checks some codes that the document or simple arithmetic gives.
func TestDefaultCodes(t *testing.T) {
	table := isa.Default()
	for form, code := range map[int]int{
		api.Halt:  11,
		api.Nop:   48,
		api.Move:  233,
		api.Set:   14, // the first one that exceeds 255
		api.Add:   88,
		api.Ret:   29,
		api.Count: 109,
	} {
		if table[form].Code != code {
			t.Errorf("form %d: got code %d, want %d", form, table[form].Code, code)
		}
	}
	previous := 11 - 37
	for k, form := range table {
		if form.Code < 0 || form.Code > 255 || (form.Code-previous-37)%256 != 0 {
			t.Errorf("form %d: got code %d after %d", k, form.Code, previous)
		}
		previous = form.Code
	}
}

// TestDefaultIsNew writes to all the memory of a result, and looks for it in the rest of this result and in another one.
func TestDefaultIsNew(t *testing.T) {
	table := isa.Default()
	for k := range table {
		table[k].Name, table[k].Code = "", -1
		for n := range table[k].Kinds {
			if table[k].Kinds[n] < 0 {
				t.Errorf("form %d shares its kinds with an earlier one", k)
			}
			table[k].Kinds[n] = -1
		}
		spare := table[k].Kinds[len(table[k].Kinds):cap(table[k].Kinds)]
		for n := range spare {
			spare[n] = -1
		}
	}
	TestDefault(t)
	TestDefaultCodes(t)
}
