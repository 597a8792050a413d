package expr_test

import (
	"math/rand"
	"slices"
	"testing"

	"linkhouse/api"
	"linkhouse/token"
)

// waiting is a sign that waits for its operand, or for the parenthesis that belongs to it.
type waiting struct {
	sign   string
	binary bool
}

// oracle parses without recursion: it keeps a stack of signs that wait, and one of the roots of complete operands.
type oracle struct {
	nodes []api.ExprNode
	roots []int
	stack []waiting
}

// complete appends a node whose children are the last n roots, and tells whether it is one too many.
func (o *oracle) complete(node api.ExprNode, n int) bool {
	last := o.roots[len(o.roots)-n:]
	if n > 0 {
		node.Left = last[0]
	}
	if n > 1 {
		node.Right = last[1]
	}
	o.nodes = append(o.nodes, node)
	o.roots = append(o.roots[:len(o.roots)-n], len(o.nodes)-1)
	return len(o.nodes) > api.MaxExpr
}

// top returns the last sign that waits, which is empty if there is none.
func (o *oracle) top() waiting {
	if len(o.stack) == 0 {
		return waiting{}
	}
	return o.stack[len(o.stack)-1]
}

func (o *oracle) pop() { o.stack = o.stack[:len(o.stack)-1] }

// depth counts the signs that contain what follows.
func (o *oracle) depth() int {
	n := 0
	for _, w := range o.stack {
		if !w.binary {
			n++
		}
	}
	return n
}

// completeUnary completes the unary signs that were waiting for the last operand, and tells whether there is one node too many.
func (o *oracle) completeUnary() bool {
	for w := o.top(); !w.binary && unaryKind(w.sign) > 0; w = o.top() {
		o.pop()
		if o.complete(api.ExprNode{Kind: unaryKind(w.sign)}, 1) {
			return true
		}
	}
	return false
}

// completeBinary completes the binary signs that bind at least as much as a level, and tells whether there is one node too many.
func (o *oracle) completeBinary(least int) bool {
	for w := o.top(); w.binary && level(w.sign) >= least; w = o.top() {
		o.pop()
		if o.complete(api.ExprNode{Kind: binaryKind(w.sign)}, 2) {
			return true
		}
	}
	return false
}

// operand takes the token that an operand begins with, and returns an error code with its distance from this token.
func (o *oracle) operand(next api.Token) (code, distance int) {
	switch {
	case next.Kind == api.TokenNumber || next.Kind == api.TokenName:
		leaf := number(next.Value)
		if next.Kind == api.TokenName {
			leaf = name(next.Text)
		}
		if o.complete(leaf, 0) || o.completeUnary() {
			return api.ErrTooMany, 1
		}
	case next.Text != "-" && next.Text != "~" && next.Text != "(":
		return api.ErrSyntax, 0
	case o.depth() == api.MaxDepth:
		return api.ErrTooLarge, 0
	default:
		o.stack = append(o.stack, waiting{sign: next.Text})
	}
	return api.OK, 0
}

// parse is R6.2 for tokens.
func (o *oracle) parse(l []api.Token) ([]api.ExprNode, api.Fault) {
	afterOperand := false
	for at := 0; at <= len(l); at++ {
		var next api.Token
		if at < len(l) {
			next = l[at]
		}
		if !afterOperand {
			if code, distance := o.operand(next); code != api.OK {
				return nil, failed(code, at+distance)
			}
			afterOperand = next.Kind != api.TokenSign
			continue
		}
		if o.completeBinary(level(next.Text)) {
			return nil, failed(api.ErrTooMany, at)
		}
		switch {
		case level(next.Text) >= 0:
			o.stack = append(o.stack, waiting{next.Text, true})
			afterOperand = false
		case next.Text == ")" && o.top().sign == "(":
			o.pop()
			if o.completeUnary() {
				return nil, failed(api.ErrTooMany, at+1)
			}
		case at < len(l) || len(o.stack) > 0:
			return nil, failed(api.ErrSyntax, at)
		}
	}
	return o.nodes, none
}

func oracleParse(l []api.Token) ([]api.ExprNode, api.Fault) { return new(oracle).parse(l) }

// texts are the texts of tokens of all kinds; those in front occur most often in expressions.
func texts() []string {
	return append([]string{"a", "1", "-", "~", "(", ")"}, append(binarySigns(), ",", ":", "=", "@")...)
}

// TestParseEverySequence compares all short sequences of tokens with the oracle.
func TestParseEverySequence(t *testing.T) {
	var check func(alphabet []api.Token, l []api.Token, n int)
	check = func(alphabet []api.Token, l []api.Token, n int) {
		want, fault := oracleParse(l)
		expectParse(t, l, want, fault)
		for _, next := range alphabet {
			if n > 0 {
				check(alphabet, append(l, next), n-1)
			}
		}
	}
	check(allTokens(t), nil, 3)
	check(tokensOf(t, "a 1 - ~ ( ) * ,"), nil, 5)
	check(tokensOf(t, "a - ( ) <<"), nil, 7)
}

// allTokens are the tokens with these texts.
func allTokens(t *testing.T) []api.Token {
	t.Helper()
	var l []api.Token
	for _, text := range texts() {
		l = append(l, tokensOf(t, text)...)
	}
	return l
}

// randomExpression returns n or more tokens of an expression, in which up to deep parentheses contain each other, beside unary signs.
func randomExpression(r *rand.Rand, all []api.Token, n, deep int) []api.Token {
	var l []api.Token
	open := 0
	for {
		for r.Intn(4) == 0 {
			l = append(l, all[2+r.Intn(2)])
		}
		if open < deep && r.Intn(2) == 0 {
			l = append(l, all[4])
			open++
			continue
		}
		l = append(l, all[r.Intn(2)])
		for open > 0 && (len(l) >= n || r.Intn(3) == 0) {
			l = append(l, all[5])
			open--
		}
		if len(l) >= n {
			return l
		}
		l = append(l, all[6+r.Intn(10)])
	}
}

// mistake replaces a token, leaves one out, or adds one.
func mistake(r *rand.Rand, all, l []api.Token) []api.Token {
	at, more := r.Intn(len(l)), all[r.Intn(len(all))]
	switch r.Intn(3) {
	case 0:
		return slices.Replace(l, at, at+1, more)
	case 1:
		return slices.Delete(l, at, at+1)
	}
	return slices.Insert(l, at, more)
}

// TestParseRandom compares long lists of tokens, of which many are expressions, with the oracle.
func TestParseRandom(t *testing.T) {
	all := allTokens(t)
	r := rand.New(rand.NewSource(1))
	counts := map[int]int{}
	for range 20_000 {
		l := randomExpression(r, all, 1+r.Intn(120), r.Intn(api.MaxDepth+2))
		if r.Intn(2) == 0 {
			l = mistake(r, all, l)
		}
		want, fault := oracleParse(l)
		expectParse(t, l, want, fault)
		counts[fault.Code]++
	}
	for _, code := range []int{api.OK, api.ErrSyntax, api.ErrTooLarge, api.ErrTooMany} {
		if counts[code] < 2000 {
			t.Errorf("only %d lists with the code %d", counts[code], code)
		}
	}
}

// TestParseJoined compares expressions after they have been written in a line and divided again.
func TestParseJoined(t *testing.T) {
	all := allTokens(t)
	r := rand.New(rand.NewSource(2))
	for range 1000 {
		l := randomExpression(r, all, 1+r.Intn(40), 3)
		line, fault := token.Join(l)
		if fault != none {
			t.Fatalf("%s: got %v", short(l), fault)
		}
		want, fault := oracleParse(l)
		expectParse(t, tokensOf(t, line), want, fault)
	}
}
