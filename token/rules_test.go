package token_test

import (
	"slices"
	"strings"
	"testing"
	"unsafe"

	"linkhouse/api"
	"linkhouse/token"
)

// TestNoAliasing checks that the tokens of an argument, with the spare capacity of its list, stay as they are, and that results are new memory.
func TestNoAliasing(t *testing.T) {
	back := []api.Token{name("a", 7), number(5, 8), {Kind: 9, Text: "spare", Value: 1}}
	before := slices.Clone(back)
	expectJoin(t, back[:2], "a 5", none)
	if !slices.Equal(back, before) {
		t.Error("an argument has changed")
	}
	l, _ := token.Split("a 5")
	clear(l[:cap(l)])
	expectSplit(t, "a 5", []api.Token{name("a", 0), number(5, 2)}, none)
}

// overlap tells whether two strings share memory.
func overlap(a, b string) bool {
	if a == "" || b == "" {
		return false
	}
	first, second := uintptr(unsafe.Pointer(unsafe.StringData(a))), uintptr(unsafe.Pointer(unsafe.StringData(b)))
	return first < second+uintptr(len(b)) && second < first+uintptr(len(a))
}

// TestStringsAreNew checks that the texts of tokens share no memory with their line or with each other, and that a line shares none with its tokens.
func TestStringsAreNew(t *testing.T) {
	line := strings.Repeat("name << name + ", 2)
	l, _ := token.Split(line)
	if len(l) != 8 {
		t.Fatalf("got %d tokens", len(l))
	}
	for k, a := range l {
		if overlap(a.Text, line) {
			t.Errorf("token %d shares memory with the line", k)
		}
		for n, b := range l[:k] {
			if overlap(a.Text, b.Text) {
				t.Errorf("tokens %d and %d share memory", n, k)
			}
		}
		if joined, _ := token.Join([]api.Token{a}); overlap(joined, a.Text) {
			t.Errorf("a line shares memory with token %d", k)
		}
	}
}

// TestRepeats checks that the results of a call do not depend on the calls before it.
func TestRepeats(t *testing.T) {
	for range 3 {
		expectSplit(t, "a<<0x10 ; b", []api.Token{name("a", 0), sign("<<", 1), number(16, 3)}, none)
		expectSplit(t, "a 1a", nil, syntax(2))
		expectJoin(t, []api.Token{name("a", 0), number(16, 0)}, "a 16", none)
		expectJoin(t, []api.Token{name("a", 0), {}}, "", malformed(1))
	}
}

// TestIsName compares texts with the names of the samples, and with what Join accepts as one.
func TestIsName(t *testing.T) {
	for _, text := range names() {
		if !token.IsName(text) {
			t.Errorf("%q is no name", text)
		}
	}
	for _, text := range slices.Concat(wrongNames(), wrongNumbers(), allSigns()) {
		if token.IsName(text) {
			t.Errorf("%.99q is a name", text)
		}
	}
	sequences("", []string{"a", "Z", "0", ".", "_", "$", "+", " ", ";", "\xff"}, 4, func(text string) {
		_, fault := token.Join([]api.Token{name(text, 0)})
		if token.IsName(text) != (fault == none) {
			t.Errorf("%q: IsName and Join differ", text)
		}
	})
}

// TestIsToken compares elements with the samples, whatever their offsets are.
func TestIsToken(t *testing.T) {
	l, _ := tokensWithTexts()
	for _, at := range []int{0, 1, -1, api.MaxText + 1} {
		for _, right := range l {
			right.At = at
			if !token.IsToken(right) {
				t.Errorf("%v is no token", right)
			}
		}
		for _, wrong := range wrongTokens() {
			wrong.At = at
			if token.IsToken(wrong) {
				t.Errorf("%.99v is a token", wrong)
			}
		}
	}
}
