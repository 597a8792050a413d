package expr_test

import (
	"math"
	"slices"
	"strings"
	"testing"

	"linkhouse/api"
)

// TestValidate has valid expressions.
func TestValidate(t *testing.T) {
	for _, text := range []string{"0", "4294967295", "a", longName, "a neg", "a ~", "2 3 a * +", "1 2 + 3 4 << | ~ neg"} {
		expectValidate(t, postfix(t, text), none)
	}
	for kind := api.ExprNegate; kind <= api.ExprOr; kind++ {
		expectValidate(t, []api.ExprNode{name("a"), binary(kind, 0, 0)}, none)
		expectValidate(t, []api.ExprNode{name("a"), number(1), binary(kind, 1, 0)}, none)
	}
	// Children may be shared, and nodes without a parent may precede the root.
	expectValidate(t, []api.ExprNode{name("a"), binary(api.ExprSub, 0, 0), binary(api.ExprMul, 1, 1), number(3)}, none)
}

// TestValidateIgnores gives the fields that a kind does not use all sorts of values.
func TestValidateIgnores(t *testing.T) {
	for _, n := range []int{0, -1, 1, 2, 99, 1 << 32, math.MaxInt, math.MinInt} {
		for _, text := range append(wrongNames(), "a") {
			expectValidate(t, []api.ExprNode{{Kind: api.ExprNumber, Value: 1, Name: text, Left: n, Right: -n}}, none)
			expectValidate(t, []api.ExprNode{{Kind: api.ExprName, Value: n, Name: "a", Left: n, Right: -n}}, none)
			for kind := api.ExprNegate; kind <= api.ExprOr; kind++ {
				node := api.ExprNode{Kind: kind, Value: n, Name: text}
				if kind == api.ExprNegate || kind == api.ExprInvert {
					node.Right = n
				}
				expectValidate(t, []api.ExprNode{name("a"), node}, none)
			}
		}
	}
}

// manyNodes returns n nodes, of which each one but the first is the negative of the one before it.
func manyNodes(n int) []api.ExprNode {
	e := make([]api.ExprNode, n)
	for k := range e {
		e[k] = unary(api.ExprNegate, k-1)
	}
	if n > 0 {
		e[0] = number(1)
	}
	return e
}

// TestValidateNodes has no nodes, as many as are permitted, and more, which are rejected whatever they are.
func TestValidateNodes(t *testing.T) {
	tooMany := failed(api.ErrTooMany, -1)
	expectValidate(t, nil, tooMany)
	expectValidate(t, []api.ExprNode{}, tooMany)
	for n := 1; n <= api.MaxExpr; n++ {
		expectValidate(t, manyNodes(n), none)
	}
	expectValidate(t, manyNodes(api.MaxExpr+1), tooMany)
	expectValidate(t, manyNodes(10*api.MaxExpr), tooMany)
	expectValidate(t, make([]api.ExprNode, api.MaxExpr+1), tooMany)
	expectValidate(t, make([]api.ExprNode, api.MaxExpr), failed(api.ErrKind, 0))
}

// broken are nodes that are invalid at the position 1, with their error codes.
func broken() map[int][]api.ExprNode {
	all := map[int][]api.ExprNode{}
	for _, kind := range []int{0, -1, 15, 16, 99, math.MaxInt, math.MinInt} {
		all[api.ErrKind] = append(all[api.ErrKind], api.ExprNode{Kind: kind}, api.ExprNode{Kind: kind, Value: -1, Name: "1", Left: 9, Right: 9})
	}
	for _, value := range []int{-1, -2, 1 << 32, 1<<32 + 1, -1 << 32, api.MaxExprSize, math.MaxInt, math.MinInt} {
		all[api.ErrRange] = append(all[api.ErrRange], number(value), api.ExprNode{Kind: api.ExprNumber, Value: value, Name: "1", Left: 9, Right: 9})
	}
	for _, text := range wrongNames() {
		all[api.ErrName] = append(all[api.ErrName], name(text), api.ExprNode{Kind: api.ExprName, Name: text, Value: -1, Left: 9, Right: 9})
	}
	for kind := api.ExprNegate; kind <= api.ExprOr; kind++ {
		for _, child := range []int{1, 2, 3, -1, -2, 99, math.MaxInt, math.MinInt} {
			all[api.ErrMalformed] = append(all[api.ErrMalformed], binary(kind, child, 0), binary(kind, child, child))
			if kind >= api.ExprAdd {
				all[api.ErrMalformed] = append(all[api.ErrMalformed], binary(kind, 0, child))
			}
		}
	}
	return all
}

// TestValidateRejects puts each invalid node behind valid ones, and in front of other invalid ones.
func TestValidateRejects(t *testing.T) {
	for code, nodes := range broken() {
		for _, node := range nodes {
			expectValidate(t, []api.ExprNode{name("a"), node}, failed(code, 1))
			expectValidate(t, []api.ExprNode{name("a"), node, name("a")}, failed(code, 1))
			expectValidate(t, []api.ExprNode{name("a"), node, {}, node}, failed(code, 1))
			expectValidate(t, []api.ExprNode{number(-1), node}, failed(api.ErrRange, 0))
			expectValidate(t, []api.ExprNode{{}, node}, failed(api.ErrKind, 0))
			if code != api.ErrMalformed {
				expectValidate(t, []api.ExprNode{node, node}, failed(code, 0))
			}
		}
	}
}

// TestValidateFirstNode has operations without a node in front of them.
func TestValidateFirstNode(t *testing.T) {
	for kind := api.ExprNegate; kind <= api.ExprOr; kind++ {
		for _, child := range []int{0, 1, -1} {
			expectValidate(t, []api.ExprNode{binary(kind, child, child)}, failed(api.ErrMalformed, 0))
			expectValidate(t, []api.ExprNode{binary(kind, child, child), number(1)}, failed(api.ErrMalformed, 0))
		}
	}
}

// TestValidateChildren has children at all positions of a longer expression.
func TestValidateChildren(t *testing.T) {
	for at := range 10 {
		for child := -2; child < 12; child++ {
			want := none
			if child < 0 || child >= at {
				want = failed(api.ErrMalformed, at)
			}
			for _, node := range []api.ExprNode{unary(api.ExprNegate, child), unary(api.ExprInvert, child), binary(api.ExprXor, child, max(0, at-1)), binary(api.ExprDiv, 0, child)} {
				e := slices.Repeat([]api.ExprNode{name("a")}, 10)
				e[at] = node
				if at == 0 {
					want = failed(api.ErrMalformed, 0)
				}
				expectValidate(t, e, want)
			}
		}
	}
}

// TestValidatesFirst checks that Value and Tokens report the errors of Validate first, whatever else is wrong.
func TestValidatesFirst(t *testing.T) {
	tooManySymbols := make([]api.Named, api.MaxText+1)
	long := manyTokens(api.MaxText + 1)
	for code, nodes := range broken() {
		for _, node := range nodes {
			e := []api.ExprNode{name("a"), node}
			for _, symbols := range [][]api.Named{nil, {{}}, tooManySymbols} {
				expectValue(t, e, symbols, api.Linear{}, failed(code, 1))
			}
			expectTokens(t, e, nil, failed(code, 1))
			if code == api.ErrMalformed {
				continue
			}
			expectTokens(t, append(slices.Clone(long), node), nil, failed(code, len(long)))
			expectValue(t, []api.ExprNode{name("a"), binary(api.ExprMul, 0, 0), node}, nil, api.Linear{}, failed(code, 2))
		}
	}
	for _, e := range [][]api.ExprNode{nil, {}, manyNodes(api.MaxExpr + 1), make([]api.ExprNode, 1000)} {
		expectValue(t, e, nil, api.Linear{}, failed(api.ErrTooMany, -1))
		expectValue(t, e, tooManySymbols, api.Linear{}, failed(api.ErrTooMany, -1))
		expectTokens(t, e, nil, failed(api.ErrTooMany, -1))
	}
}

// TestValidateParsed validates what Parse returns.
func TestValidateParsed(t *testing.T) {
	for _, line := range []string{"0", "0xffffffff", longName, "-(a + ~b) << 3 | c", strings.Repeat("1+", api.MaxExpr/2-1) + "1"} {
		want, _ := oracleParse(tokensOf(t, line))
		expectParse(t, tokensOf(t, line), want, none)
		expectValidate(t, want, none)
	}
}
