package macro_test

import (
	"slices"
	"strings"
	"testing"
	"unsafe"

	"linkhouse/api"
	"linkhouse/macro"
)

// TestExample has the example of the chapter.
func TestExample(t *testing.T) {
	yields(t, `.macro twice a|\a|\a|.endm|twice nop`, "4 nop|4 nop")
}

// TestNoAliasing checks that the lines of an argument, with its spare capacity, stay as they are, and that results are new memory.
func TestNoAliasing(t *testing.T) {
	lines := divide(`.macro m a|\a|x|.endm|m b|.rept 2|c|.endr|spare|.endif`)
	before := slices.Clone(lines)
	want := made(t, "4 b|4 x|6 c|6 c")
	for range 3 {
		got, _ := macro.Expand(lines[:8])
		clear(got[:cap(got)])
		expect(t, lines[:8], want, none)
	}
	if !slices.Equal(lines, before) {
		t.Error("an argument has changed")
	}
}

// overlap tells whether two strings share memory.
func overlap(a, b string) bool {
	if a == "" || b == "" {
		return false
	}
	first, second := uintptr(unsafe.Pointer(unsafe.StringData(a))), uintptr(unsafe.Pointer(unsafe.StringData(b)))
	return first < second+uintptr(len(b)) && second < first+uintptr(len(a))
}

// TestTextsAreNew checks that the lines of a result share no memory with those of the source text or with each other.
func TestTextsAreNew(t *testing.T) {
	lines := divide(strings.Clone(`plain|.macro m a|\a|body|\a \a|.endm|m argument|.rept 3|m other|again|.endr|m plain`))
	result, fault := macro.Expand(lines)
	if fault != none || len(result) != 1+3+3*4+3 {
		t.Fatalf("got %v and %v", result, fault)
	}
	for k, l := range result {
		for _, text := range lines {
			if overlap(l.Text, text) {
				t.Errorf("line %d shares memory with the source text", k)
			}
		}
		for n, other := range result[:k] {
			if overlap(l.Text, other.Text) {
				t.Errorf("lines %d and %d share memory", n, k)
			}
		}
	}
}

// TestRepeats checks that the results of a call do not depend on the calls before it.
func TestRepeats(t *testing.T) {
	for range 3 {
		yields(t, `.macro m|x\@|.endm|m|m`, "3 x1|4 x2")
		yields(t, "m|m", "0 m|1 m")
		rejects(t, ".macro m|a|.endm|m|.endr", api.ErrSyntax, 4)
		expect(t, working(api.MaxWork), nil, none)
	}
}
