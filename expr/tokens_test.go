package expr_test

import (
	"math"
	"math/rand"
	"slices"
	"strconv"
	"strings"
	"testing"

	"linkhouse/api"
	"linkhouse/expr"
)

// TestTokens compares expressions in postorder with lines.
func TestTokens(t *testing.T) {
	for words, want := range map[string]string{
		"2 3 a * +":       "( 2 + ( 3 * a ) )",
		"7":               "7",
		"0":               "0",
		"4294967295":      "4294967295",
		"a":               "a",
		longName:          longName,
		"a neg":           "- a",
		"a ~":             "~ a",
		"7 neg":           "- 7",
		"a neg neg":       "- - a",
		"a ~ neg ~":       "~ - ~ a",
		"a b +":           "( a + b )",
		"a b + neg":       "- ( a + b )",
		"a neg b +":       "( - a + b )",
		"a b neg -":       "( a - - b )",
		"a b - c -":       "( ( a - b ) - c )",
		"a b c - -":       "( a - ( b - c ) )",
		"a b * c d / %":   "( ( a * b ) % ( c / d ) )",
		"a b ^ c | ~":     "~ ( ( a ^ b ) | c )",
		"1 2 << 3 >>":     "( ( 1 << 2 ) >> 3 )",
		"a 1 & ~ b neg |": "( ~ ( a & 1 ) | - b )",
	} {
		expectTokens(t, postfix(t, words), withoutOffsets(t, want), none)
	}
}

// TestTokensSigns has each sign alone.
func TestTokensSigns(t *testing.T) {
	for kind, sign := range map[int]string{
		5: "+", 6: "-", 7: "*", 8: "/", 9: "%", 10: "<<", 11: ">>", 12: "&", 13: "^", 14: "|",
	} {
		e := []api.ExprNode{name("a"), number(1), {Kind: kind, Left: 0, Right: 1}, {Kind: kind, Left: 1, Right: 2}, {Kind: kind, Left: 3, Right: 3}}
		expectTokens(t, e[:3], withoutOffsets(t, "(a "+sign+" 1)"), none)
		expectTokens(t, e[:4], withoutOffsets(t, "(1 "+sign+" (a "+sign+" 1))"), none)
		expectTokens(t, e, withoutOffsets(t, "((1 "+sign+" (a "+sign+" 1)) "+sign+" (1 "+sign+" (a "+sign+" 1)))"), none)
	}
	for kind, sign := range map[int]string{3: "-", 4: "~"} {
		e := []api.ExprNode{name("a"), {Kind: kind}, {Kind: kind, Left: 1}}
		expectTokens(t, e[:2], withoutOffsets(t, sign+"a"), none)
		expectTokens(t, e, withoutOffsets(t, sign+sign+"a"), none)
	}
}

// TestTokensIgnores has nodes that are not part of the last one, and fields that a kind does not use.
func TestTokensIgnores(t *testing.T) {
	e := []api.ExprNode{
		{Kind: api.ExprNumber, Value: 5, Name: "1", Left: -1, Right: 99},
		{Kind: api.ExprName, Name: "a", Value: 7, Left: math.MaxInt, Right: math.MinInt},
		{Kind: api.ExprNegate, Left: 0, Right: -1, Name: "b", Value: -1},
		{Kind: api.ExprSub, Left: 1, Right: 1, Name: "?", Value: 1 << 40},
	}
	expectTokens(t, e[:1], withoutOffsets(t, "5"), none)
	expectTokens(t, e[:2], withoutOffsets(t, "a"), none)
	expectTokens(t, e[:3], withoutOffsets(t, "-5"), none)
	expectTokens(t, e, withoutOffsets(t, "(a - a)"), none)
	expectTokens(t, append(e, name("c")), withoutOffsets(t, "c"), none)
}

// manyTokens returns an expression that has n tokens: where possible, both children of a node are the same one.
func manyTokens(n int) []api.ExprNode {
	switch {
	case n == 1:
		return []api.ExprNode{name("a")}
	case n >= 5 && n%2 == 1:
		e := manyTokens((n - 3) / 2)
		return append(e, binary(api.ExprAdd, len(e)-1, len(e)-1))
	}
	e := manyTokens(n - 1)
	return append(e, unary(api.ExprInvert, len(e)-1))
}

// writeTokens is R6.5 for a node, as a line.
func writeTokens(e []api.ExprNode, k int) string {
	node := e[k]
	switch node.Kind {
	case api.ExprNumber:
		return strconv.Itoa(node.Value)
	case api.ExprName:
		return node.Name
	case api.ExprNegate:
		return "- " + writeTokens(e, node.Left)
	case api.ExprInvert:
		return "~ " + writeTokens(e, node.Left)
	}
	for _, sign := range binarySigns() {
		if binaryKind(sign) == node.Kind {
			return "( " + writeTokens(e, node.Left) + " " + sign + " " + writeTokens(e, node.Right) + " )"
		}
	}
	return ""
}

// expectWritten writes an expression and compares its tokens with the words of writeTokens.
func expectWritten(t *testing.T, e []api.ExprNode) {
	t.Helper()
	var want []api.Token
	for word := range strings.FieldsSeq(writeTokens(e, len(e)-1)) {
		want = append(want, withoutOffsets(t, word)...)
	}
	expectTokens(t, e, want, none)
}

// TestTokensLimit has as many tokens as are permitted, and more.
func TestTokensLimit(t *testing.T) {
	for _, n := range []int{1, 2, 3, 4, 5, 6, 7, 100, 999, api.MaxText - 2, api.MaxText - 1, api.MaxText} {
		e := manyTokens(n)
		if l, _ := expr.Tokens(e); len(l) != n {
			t.Errorf("got %d tokens, want %d", len(l), n)
		}
		expectWritten(t, e)
	}
	expectWritten(t, manyNodes(api.MaxExpr))
	tooLarge := failed(api.ErrTooLarge, -3)
	for _, n := range []int{1, 2, 3, 4, 100, api.MaxText, 10 * api.MaxText, 1 << 40} {
		expectTokens(t, manyTokens(api.MaxText+n), nil, tooLarge)
	}
	e := []api.ExprNode{name("a")}
	for k := range api.MaxExpr - 1 {
		e = append(e, binary(api.ExprAdd, k, k))
	}
	expectTokens(t, e, nil, tooLarge)
}

// TestTokensLimitAnywhere has a node with too many tokens that is not the last one.
func TestTokensLimitAnywhere(t *testing.T) {
	tooLarge := failed(api.ErrTooLarge, -3)
	for _, last := range []api.ExprNode{number(1), name("a"), unary(api.ExprNegate, 0), binary(api.ExprOr, 0, 0)} {
		most, more := manyTokens(api.MaxText), manyTokens(api.MaxText+1)
		expectWritten(t, append(most, last))
		expectTokens(t, append(more, last), nil, tooLarge)
		expectTokens(t, append(more, last, last), nil, tooLarge)
	}
	for _, n := range []int{api.MaxText - 1, api.MaxText} {
		e := manyTokens(n)
		e = append(e, unary(api.ExprNegate, len(e)-1), number(1))
		if n == api.MaxText {
			expectTokens(t, e, nil, tooLarge)
		} else {
			expectWritten(t, e)
		}
	}
	// Two children that together, with their sign and parentheses, are just short enough.
	for _, n := range []int{api.MaxText - 4, api.MaxText - 3} {
		e := manyTokens(n)
		for _, last := range []api.ExprNode{binary(api.ExprMul, 0, len(e)-1), binary(api.ExprMul, len(e)-1, 0)} {
			if n == api.MaxText-3 {
				expectTokens(t, append(e, last), nil, tooLarge)
			} else {
				expectWritten(t, append(e, last))
			}
		}
	}
}

// randomNodes returns n valid nodes.
func randomNodes(r *rand.Rand, n int) []api.ExprNode {
	var e []api.ExprNode
	for k := range n {
		switch choice := r.Intn(8); {
		case k == 0 || choice == 0:
			e = append(e, number(r.Intn(1<<32)))
		case choice == 1:
			e = append(e, name([]string{"a", "b", "c", longName}[r.Intn(4)]))
		default:
			e = append(e, binary(api.ExprNegate+r.Intn(12), k-1-r.Intn(min(k, 3)), k-1-r.Intn(min(k, 4))))
		}
	}
	return e
}

// TestTokensRandom compares expressions of all sorts with writeTokens.
func TestTokensRandom(t *testing.T) {
	r := rand.New(rand.NewSource(1))
	for range 3000 {
		expectWritten(t, randomNodes(r, 1+r.Intn(14)))
	}
}

// TestTokensParsed parses the tokens of expressions in postorder, of which no node has two parents, and gets the same nodes again.
func TestTokensParsed(t *testing.T) {
	all := allTokens(t)
	r := rand.New(rand.NewSource(3))
	count := 0
	for range 3000 {
		e, fault := oracleParse(randomExpression(r, all, 1+r.Intn(40), 3))
		if fault != none {
			continue
		}
		l, fault := expr.Tokens(e)
		again, other := oracleParse(l)
		if other.Code == api.ErrTooLarge {
			continue // more parentheses than Parse permits
		}
		count++
		if fault != none || !slices.Equal(again, e) {
			t.Fatalf("%s: got %s %v", short(e), short(again), fault)
		}
		expectParse(t, l, e, none)
	}
	if count < 1000 {
		t.Errorf("only %d expressions", count)
	}
}
