package expr

import (
	"strings"

	"linkhouse/api"
)

// isShort tells whether no node of a valid expression has more than MaxText tokens. A node may be the child of several others, so that there can be far more tokens than nodes.
func isShort(e []api.ExprNode) bool {
	var sizes [api.MaxExpr]int
	for k, node := range e {
		sizes[k] = ownTokens(node.Kind)
		for _, child := range children(node) {
			sizes[k] += sizes[child]
		}
		if sizes[k] > api.MaxText {
			return false
		}
	}
	return true
}

// ownTokens returns how many tokens a node of a kind has beside those of its children: the parentheses of a binary node belong to it.
func ownTokens(kind int) int {
	if kinds[kind].children == 2 {
		return 3
	}
	return 1
}

// written returns the tokens of a valid expression.
func written(e []api.ExprNode) []api.Token {
	var l []api.Token
	putSign := func(text string) { l = append(l, api.Token{Kind: api.TokenSign, Text: text}) }
	var put func(node api.ExprNode)
	put = func(node api.ExprNode) {
		sign := kinds[node.Kind].sign
		switch kinds[node.Kind].children {
		case 0:
			l = append(l, leaf(node))
		case 1:
			putSign(sign)
			put(e[node.Left])
		default:
			putSign(opening)
			put(e[node.Left])
			putSign(sign)
			put(e[node.Right])
			putSign(closing)
		}
	}
	put(e[len(e)-1])
	return l
}

// leaf returns the token of a number or a name.
func leaf(node api.ExprNode) api.Token {
	if node.Kind == api.ExprNumber {
		return api.Token{Kind: api.TokenNumber, Value: node.Value}
	}
	// The clone keeps the token from sharing the memory of the node.
	return api.Token{Kind: api.TokenName, Text: strings.Clone(node.Name)}
}
