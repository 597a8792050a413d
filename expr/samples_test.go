package expr_test

import (
	"fmt"
	"math"
	"slices"
	"strconv"
	"strings"
	"testing"

	"linkhouse/api"
	"linkhouse/expr"
	"linkhouse/token"
)

var none = api.Fault{}

// failed is a fault at a position.
func failed(code, at int) api.Fault { return api.Fault{Code: code, Index: at} }

// short returns the beginning of how arguments are printed.
func short(l ...any) string { return fmt.Sprintf("%.200s", fmt.Sprint(l...)) }

// expectParse parses tokens and compares both results. A fault comes with nil only.
func expectParse(t *testing.T, l []api.Token, want []api.ExprNode, fault api.Fault) {
	t.Helper()
	got, gotFault := expr.Parse(l)
	if !slices.Equal(got, want) || gotFault != fault || fault != none && got != nil {
		t.Fatalf("%s: got %s, want %s", short(l), short(gotFault, got), short(fault, want))
	}
}

func expectValidate(t *testing.T, e []api.ExprNode, fault api.Fault) {
	t.Helper()
	if got := expr.Validate(e); got != fault {
		t.Fatalf("%s: got %v, want %v", short(e), got, fault)
	}
}

func expectValue(t *testing.T, e []api.ExprNode, symbols []api.Named, want api.Linear, fault api.Fault) {
	t.Helper()
	got, gotFault := expr.Value(e, symbols)
	if got != want || gotFault != fault {
		t.Fatalf("%s with %s: got %v %v, want %v %v", short(e), short(symbols), got, gotFault, want, fault)
	}
}

// expectTokens writes an expression and compares both results. A fault comes with nil only.
func expectTokens(t *testing.T, e []api.ExprNode, want []api.Token, fault api.Fault) {
	t.Helper()
	got, gotFault := expr.Tokens(e)
	if !slices.Equal(got, want) || gotFault != fault || fault != none && got != nil {
		t.Fatalf("%s: got %s, want %s", short(e), short(gotFault, got), short(fault, want))
	}
}

// tokensOf divides a line.
func tokensOf(t *testing.T, line string) []api.Token {
	t.Helper()
	l, fault := token.Split(line)
	if fault != none {
		t.Fatalf("%q is no line: %v", line, fault)
	}
	return l
}

// withoutOffsets divides a line, and sets the offsets of its tokens to 0.
func withoutOffsets(t *testing.T, line string) []api.Token {
	t.Helper()
	l := tokensOf(t, line)
	for k := range l {
		l[k].At = 0
	}
	return l
}

func number(value int) api.ExprNode { return api.ExprNode{Kind: api.ExprNumber, Value: value} }

func name(text string) api.ExprNode { return api.ExprNode{Kind: api.ExprName, Name: text} }

func unary(kind, child int) api.ExprNode { return api.ExprNode{Kind: kind, Left: child} }

func binary(kind, left, right int) api.ExprNode {
	return api.ExprNode{Kind: kind, Left: left, Right: right}
}

// levels are the binary signs as the chapter lists them, from those that bind least to those that bind most.
func levels() [][]string {
	return [][]string{{"|"}, {"^"}, {"&"}, {"<<", ">>"}, {"+", "-"}, {"*", "/", "%"}}
}

func binarySigns() []string { return slices.Concat(levels()...) }

// level returns the position of a binary sign in levels, or -1.
func level(sign string) int {
	return slices.IndexFunc(levels(), func(l []string) bool { return slices.Contains(l, sign) })
}

// unaryKind returns the kind of the nodes of a unary sign, or 0.
func unaryKind(sign string) int {
	switch sign {
	case "-":
		return api.ExprNegate
	case "~":
		return api.ExprInvert
	}
	return 0
}

// binaryKind returns the kind of the nodes of a binary sign, or 0.
func binaryKind(sign string) int {
	switch sign {
	case "+":
		return api.ExprAdd
	case "-":
		return api.ExprSub
	case "*":
		return api.ExprMul
	case "/":
		return api.ExprDiv
	case "%":
		return api.ExprRest
	case "<<":
		return api.ExprLeft
	case ">>":
		return api.ExprRight
	case "&":
		return api.ExprAnd
	case "^":
		return api.ExprXor
	case "|":
		return api.ExprOr
	}
	return 0
}

// postfix returns an expression from numbers, names and signs in postorder, in which neg stands for the unary sign -.
func postfix(t *testing.T, text string) []api.ExprNode {
	t.Helper()
	var e []api.ExprNode
	var open []int
	pop := func() int {
		if len(open) == 0 {
			t.Fatalf("%q is no expression", text)
		}
		last := open[len(open)-1]
		open = open[:len(open)-1]
		return last
	}
	for word := range strings.FieldsSeq(text) {
		value, err := strconv.Atoi(word)
		kind := binaryKind(word)
		switch {
		case err == nil:
			e = append(e, number(value))
		case word == "neg":
			e = append(e, unary(api.ExprNegate, pop()))
		case word == "~":
			e = append(e, unary(api.ExprInvert, pop()))
		case kind > 0:
			right := pop()
			e = append(e, binary(kind, pop(), right))
		default:
			e = append(e, name(word))
		}
		open = append(open, len(e)-1)
	}
	if len(open) != 1 {
		t.Fatalf("%q is no expression", text)
	}
	return e
}

// longName is a name of as many bytes as are permitted.
const longName = "_aZ09.$zA_.$mM54"

// wrongNames are texts that are no names, the empty one among them.
func wrongNames() []string {
	return []string{
		"", "1", "1a", "0", "0x1", longName + "a", strings.Repeat("a", 1000), " ", "a ", " a", "a b", "a\t", "a+", "+", "-a", "(", "a;", ";", "a\n",
		"\x00", "a\x00", "a!", "a-b", "\xff", "a\xff", "\u00e4", "a\u00e4", "\u212a",
	}
}

// wrongTokens are elements that are no tokens.
func wrongTokens() []api.Token {
	l := []api.Token{
		{},
		{Kind: -1, Text: "a"},
		{Kind: 0, Text: "+"},
		{Kind: 4, Value: 1},
		{Kind: math.MaxInt},
		{Kind: math.MinInt},
		{Kind: api.TokenNumber, Value: -1},
		{Kind: api.TokenNumber, Value: 1 << 32},
		{Kind: api.TokenNumber, Value: math.MaxInt},
		{Kind: api.TokenNumber, Value: math.MinInt},
		{Kind: api.TokenNumber, Value: 1, Text: "1"},
		{Kind: api.TokenNumber, Text: "a"},
		{Kind: api.TokenName, Text: "a", Value: 1},
		{Kind: api.TokenName, Text: "a", Value: -1},
		{Kind: api.TokenSign, Text: "+", Value: 1},
		{Kind: api.TokenSign},
		{Kind: api.TokenSign, Text: "a"},
		{Kind: api.TokenSign, Text: "<"},
		{Kind: api.TokenSign, Text: ">"},
		{Kind: api.TokenSign, Text: "++"},
		{Kind: api.TokenSign, Text: "- "},
		{Kind: api.TokenSign, Text: "!"},
		{Kind: api.TokenSign, Text: "()"},
	}
	for _, text := range wrongNames() {
		l = append(l, api.Token{Kind: api.TokenName, Text: text})
	}
	return l
}
