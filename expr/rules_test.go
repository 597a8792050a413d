package expr_test

import (
	"slices"
	"testing"
	"unsafe"

	"linkhouse/api"
	"linkhouse/expr"
)

// TestExamples has the examples of the chapter.
func TestExamples(t *testing.T) {
	product := postfix(t, "2 3 a * +")
	expectParse(t, tokensOf(t, "2 + 3 * a"), product, none)
	expectValidate(t, []api.ExprNode{{Kind: api.ExprNegate, Left: 0}}, failed(api.ErrMalformed, 0))
	expectValue(t, postfix(t, "a b - 2 +"), nil, linear("a", "b", 2), none)
	expectValue(t, postfix(t, "a a -"), nil, linear("", "", 0), none)
	expectTokens(t, product, withoutOffsets(t, "( 2 + ( 3 * a ) )"), none)
}

// TestNoAliasing checks that arguments, with the spare capacity of their lists, stay as they are, and that results are new memory.
func TestNoAliasing(t *testing.T) {
	tokens := tokensOf(t, "a - 5 )")
	nodes := []api.ExprNode{name("a"), number(5), binary(api.ExprSub, 0, 1), {Kind: 99}}
	symbols := []api.Named{named("a", linear("b", "c", 7)), named("?", linear("", "", 1<<50))}
	oldTokens, oldNodes, oldSymbols := slices.Clone(tokens), slices.Clone(nodes), slices.Clone(symbols)
	call := func() ([]api.ExprNode, []api.Token) {
		parsed, _ := expr.Parse(tokens[:3])
		written, _ := expr.Tokens(nodes[:3])
		expectParse(t, tokens[:3], nodes[:3], none)
		expectValidate(t, nodes[:3], none)
		expectValue(t, nodes[:3], symbols[:1], linear("b", "c", 2), none)
		expectTokens(t, nodes[:3], withoutOffsets(t, "( a - 5 )"), none)
		return parsed, written
	}
	for range 3 {
		parsed, written := call()
		clear(parsed[:cap(parsed)])
		clear(written[:cap(written)])
	}
	if !slices.Equal(tokens, oldTokens) || !slices.Equal(nodes, oldNodes) || !slices.Equal(symbols, oldSymbols) {
		t.Error("an argument has changed")
	}
}

// overlap tells whether two strings share memory.
func overlap(a, b string) bool {
	if a == "" || b == "" {
		return false
	}
	first, second := uintptr(unsafe.Pointer(unsafe.StringData(a))), uintptr(unsafe.Pointer(unsafe.StringData(b)))
	return first < second+uintptr(len(b)) && second < first+uintptr(len(a))
}

// TestNamesAreNew checks that the names in results share no memory with those in arguments, or with each other.
func TestNamesAreNew(t *testing.T) {
	text := "name"
	nodes, _ := expr.Parse([]api.Token{{Kind: api.TokenName, Text: text}, {Kind: api.TokenSign, Text: "+"}, {Kind: api.TokenName, Text: text}})
	if len(nodes) != 3 || overlap(nodes[0].Name, text) || overlap(nodes[1].Name, text) || overlap(nodes[0].Name, nodes[1].Name) {
		t.Errorf("names of %v share memory", nodes)
	}
	tokens, _ := expr.Tokens([]api.ExprNode{name(text), binary(api.ExprAdd, 0, 0)})
	if len(tokens) != 5 || overlap(tokens[1].Text, text) || overlap(tokens[3].Text, text) || overlap(tokens[1].Text, tokens[3].Text) {
		t.Errorf("names of %v share memory", tokens)
	}
	own, _ := expr.Value([]api.ExprNode{name(text)}, nil)
	if own.Symbol != text || overlap(own.Symbol, text) {
		t.Errorf("names of %v share memory", own)
	}
	symbol, minus := text[:2], text[2:]
	given, _ := expr.Value([]api.ExprNode{name(text)}, []api.Named{named(text, linear(symbol, minus, 0))})
	if given != linear(symbol, minus, 0) || overlap(given.Symbol, text) || overlap(given.Minus, text) {
		t.Errorf("names of %v share memory", given)
	}
	both, _ := expr.Value(postfix(t, "a b -"), []api.Named{named("a", linear(symbol, "", 0)), named("b", linear(minus, "", 0))})
	if both != linear(symbol, minus, 0) || overlap(both.Symbol, text) || overlap(both.Minus, text) {
		t.Errorf("names of %v share memory", both)
	}
}

// TestRepeats checks that the results of a call do not depend on the calls before it.
func TestRepeats(t *testing.T) {
	for range 3 {
		expectParse(t, tokensOf(t, "-a"), postfix(t, "a neg"), none)
		expectParse(t, tokensOf(t, "((a"), nil, failed(api.ErrSyntax, 3))
		expectParse(t, tokensOf(t, "---------a"), nil, failed(api.ErrTooLarge, 8))
		expectValue(t, postfix(t, "a b -"), []api.Named{named("a", linear("", "", 4))}, linear("", "b", 4), none)
		expectValue(t, postfix(t, "a b -"), nil, linear("a", "b", 0), none)
		expectValue(t, postfix(t, "a b *"), nil, linear("", "", 0), failed(api.ErrWrongType, 2))
		expectTokens(t, postfix(t, "a b -"), withoutOffsets(t, "(a - b)"), none)
	}
}
