package disasm_test

import (
	"bytes"
	"slices"
	"strings"
	"testing"

	"linkhouse/api"
	"linkhouse/disasm"
)

// TestValidatesFirst checks that all functions report the errors of the table first, whatever else is wrong.
func TestValidatesFirst(t *testing.T) {
	for want, table := range broken() {
		for _, n := range []int{0, 1, api.MaxData + 1, api.MaxText + 1} {
			expectAll(t, table, make([]byte, n), nil, want)
			expectText(t, table, ins(n-1, 99), "", want)
			expectRead(t, table, strings.Repeat("x", n), api.Ins{}, want)
		}
	}
}

// TestNoAliasing checks that arguments, with their spare capacity, stay as they are, and that results are new memory.
func TestNoAliasing(t *testing.T) {
	back := []api.Form{
		{Name: "a", Code: 9, Kinds: []int{reg, octet, 99}[:2]},
		{Name: "b", Code: 400, Kinds: []int{77}},
	}
	table := back[:1]
	code := []byte{9, 3, 254, 9, 4, 1, 66}[:6]
	args := []int{3, -2, 55}[:2]
	all, _ := disasm.All(table, code)
	text, _ := disasm.Text(table, api.Ins{Args: args})
	read, _ := disasm.Read(table, "a r3, -2")
	again, _ := disasm.Read(table, "a r3, -2")
	if len(all) != 2 || text != "a r3, -2" || len(read.Args) != 2 {
		t.Fatalf("got %v, %q, %v", all, text, read)
	}
	for _, l := range [][]int{all[0].Ins.Args, read.Args} {
		clear(l[:cap(l)])
	}
	if !same(all[1].Ins, ins(0, 4, 1)) || !same(again, ins(0, 3, -2)) {
		t.Errorf("results share memory: %v, %v", all, again)
	}
	clear(all[:cap(all)])
	if !bytes.Equal(code[:7], []byte{9, 3, 254, 9, 4, 1, 66}) || !slices.Equal(args[:3], []int{3, -2, 55}) {
		t.Error("an argument has changed")
	}
	if !slices.Equal(back[0].Kinds[:3], []int{reg, octet, 99}) || back[0].Code != 9 || back[1].Code != 400 || back[1].Kinds[0] != 77 {
		t.Error("the table has changed")
	}
}
