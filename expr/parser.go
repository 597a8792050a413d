package expr

import (
	"strings"

	"linkhouse/api"
)

// parser reads an expression. Its methods return the code of the first error, which is at the position that has been reached, or api.OK.
type parser struct {
	tokens []api.Token
	at     int // the position that has been reached
	depth  int // how many signs -, ~ and ( contain this position
	nodes  []api.ExprNode
}

// next returns the next token, or one without a kind if there is none. Of the tokens, only signs have the text of a sign.
func (p *parser) next() api.Token {
	if p.at == len(p.tokens) {
		return api.Token{}
	}
	return p.tokens[p.at]
}

// root returns the position of the root of what has been read last.
func (p *parser) root() int {
	return len(p.nodes) - 1
}

// add appends a node whose tokens have been read.
func (p *parser) add(node api.ExprNode) int {
	if len(p.nodes) == api.MaxExpr {
		return api.ErrTooMany
	}
	p.nodes = append(p.nodes, node)
	return api.OK
}

// expression reads operands and the binary signs between them, up to a sign that binds less than required.
func (p *parser) expression(binding int) int {
	if code := p.operand(); code != api.OK {
		return code
	}
	for {
		kind := kindOf(p.next().Text, 2)
		if kinds[kind].binding < binding {
			return api.OK
		}
		p.at++
		left := p.root()
		// A sign that binds equally is not part of the right operand, but comes after this operation.
		if code := p.expression(kinds[kind].binding + 1); code != api.OK {
			return code
		}
		if code := p.add(api.ExprNode{Kind: kind, Left: left, Right: p.root()}); code != api.OK {
			return code
		}
	}
}

// operand reads a number, a name, a unary sign with its operand, or an expression in parentheses.
func (p *parser) operand() int {
	t := p.next()
	switch kind := kindOf(t.Text, 1); {
	case t.Kind == api.TokenNumber:
		p.at++
		return p.add(api.ExprNode{Kind: api.ExprNumber, Value: t.Value})
	case t.Kind == api.TokenName:
		p.at++
		// The clone keeps the node from sharing the memory of the token.
		return p.add(api.ExprNode{Kind: api.ExprName, Name: strings.Clone(t.Text)})
	case kind > 0:
		return p.contained(func() int { return p.unary(kind) })
	case t.Text == opening:
		return p.contained(p.parenthesized)
	}
	return api.ErrSyntax
}

// contained reads a sign -, ~ or (, and with read what it contains.
func (p *parser) contained(read func() int) int {
	if p.depth == api.MaxDepth {
		return api.ErrTooLarge
	}
	p.at++
	p.depth++
	code := read()
	p.depth--
	return code
}

// unary reads the operand of a unary sign.
func (p *parser) unary(kind int) int {
	if code := p.operand(); code != api.OK {
		return code
	}
	return p.add(api.ExprNode{Kind: kind, Left: p.root()})
}

// parenthesized reads an expression and the parenthesis behind it.
func (p *parser) parenthesized() int {
	if code := p.expression(loosest); code != api.OK {
		return code
	}
	if p.next().Text != closing {
		return api.ErrSyntax
	}
	p.at++
	return api.OK
}
