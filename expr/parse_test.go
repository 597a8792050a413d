package expr_test

import (
	"math"
	"slices"
	"strings"
	"testing"

	"linkhouse/api"
)

// TestParse compares lines with expressions in postorder.
func TestParse(t *testing.T) {
	for line, want := range map[string]string{
		"2 + 3 * a":                 "2 3 a * +",
		"7":                         "7",
		"a":                         "a",
		"0xffffffff":                "4294967295",
		longName:                    longName,
		"(a)":                       "a",
		"(((a)))":                   "a",
		"-a":                        "a neg",
		"~a":                        "a ~",
		"-1":                        "1 neg",
		"~-~a":                      "a ~ neg ~",
		"- -a":                      "a neg neg",
		"-(a)":                      "a neg",
		"-(-(a))":                   "a neg neg",
		"-(a + b)":                  "a b + neg",
		"~(a + b) * c":              "a b + ~ c *",
		"-a + b":                    "a neg b +",
		"-a * b":                    "a neg b *",
		"a * -b":                    "a b neg *",
		"a - -b":                    "a b neg -",
		"a - - -b":                  "a b neg neg -",
		"a-~b-c":                    "a b ~ - c -",
		"a - b - c":                 "a b - c -",
		"a - (b - c)":               "a b c - -",
		"(a - b) - c":               "a b - c -",
		"a / b * c % d":             "a b / c * d %",
		"a << b >> c << d":          "a b << c >> d <<",
		"(2 + 3) * a":               "2 3 + a *",
		"2 * 3 + a":                 "2 3 * a +",
		"a | b ^ c & d << e + f*g":  "a b c d e f g * + << & ^ |",
		"a*b + c << d & e ^ f | g":  "a b * c + d << e & f ^ g |",
		"a*b + c*d - e/f":           "a b * c d * + e f / -",
		"a | b & c | d":             "a b c & | d |",
		"((a|b)&(c|d))*(e)":         "a b | c d | & e *",
		"a + (b * (c - (d / -e)))":  "a b c d e neg / - * +",
		"(a - b) / 4 + (c<<2)":      "a b - 4 / c 2 << +",
		"x + x":                     "x x +",
		"1 + 1":                     "1 1 +",
		"neg1 + .x * $y - _":        "neg1 .x $y * + _ -",
		"-a << -b | ~c >> ~(d)":     "a neg b neg << c ~ d ~ >> |",
		"a + b ; - c":               "a b +",
		"0 - 0 * 0":                 "0 0 0 * -",
		"a ^ b ^ c | d ^ e & f & g": "a b ^ c ^ d e f & g & ^ |",
	} {
		expectParse(t, tokensOf(t, line), postfix(t, want), none)
	}
}

// TestParseNodes compares all fields of the nodes of the chapter's example, and of one with unary signs.
func TestParseNodes(t *testing.T) {
	expectParse(t, tokensOf(t, "2 + 3 * a"), []api.ExprNode{
		{Kind: api.ExprNumber, Value: 2},
		{Kind: api.ExprNumber, Value: 3},
		{Kind: api.ExprName, Name: "a"},
		{Kind: api.ExprMul, Left: 1, Right: 2},
		{Kind: api.ExprAdd, Left: 0, Right: 3},
	}, none)
	expectParse(t, tokensOf(t, "(b - ~0x10) % -c"), []api.ExprNode{
		{Kind: api.ExprName, Name: "b"},
		{Kind: api.ExprNumber, Value: 16},
		{Kind: api.ExprInvert, Left: 1},
		{Kind: api.ExprSub, Left: 0, Right: 2},
		{Kind: api.ExprName, Name: "c"},
		{Kind: api.ExprNegate, Left: 4},
		{Kind: api.ExprRest, Left: 3, Right: 5},
	}, none)
}

// TestParseSigns has each sign alone.
func TestParseSigns(t *testing.T) {
	for sign, kind := range map[string]int{
		"+": 5, "-": 6, "*": 7, "/": 8, "%": 9, "<<": 10, ">>": 11, "&": 12, "^": 13, "|": 14,
	} {
		expectParse(t, tokensOf(t, "a"+sign+"b"), []api.ExprNode{name("a"), name("b"), {Kind: kind, Right: 1}}, none)
	}
	expectParse(t, tokensOf(t, "-a"), []api.ExprNode{name("a"), {Kind: 3}}, none)
	expectParse(t, tokensOf(t, "~a"), []api.ExprNode{name("a"), {Kind: 4}}, none)
}

// TestParsePairs has every binary sign against every other: the second one is performed first only if it binds more.
func TestParsePairs(t *testing.T) {
	for _, s := range binarySigns() {
		for _, o := range binarySigns() {
			want := "a b " + s + " c " + o
			if level(o) > level(s) {
				want = "a b c " + o + " " + s
			}
			expectParse(t, tokensOf(t, "a "+s+" b "+o+" c"), postfix(t, want), none)
			expectParse(t, tokensOf(t, "(a "+s+" b) "+o+" c"), postfix(t, "a b "+s+" c "+o), none)
			expectParse(t, tokensOf(t, "a "+s+" (b "+o+" c)"), postfix(t, "a b c "+o+" "+s), none)
			expectParse(t, tokensOf(t, "-(a "+s+" ~b) "+o+" -c"), postfix(t, "a b ~ "+s+" neg c neg "+o), none)
		}
	}
}

// TestParseUnaryBindsMost has both unary signs in front of both operands of every binary sign.
func TestParseUnaryBindsMost(t *testing.T) {
	for sign, word := range map[string]string{"-": "neg", "~": "~"} {
		for _, s := range binarySigns() {
			expectParse(t, tokensOf(t, sign+" a "+s+" b"), postfix(t, "a "+word+" b "+s), none)
			expectParse(t, tokensOf(t, "a "+s+" "+sign+" b"), postfix(t, "a b "+word+" "+s), none)
			expectParse(t, tokensOf(t, "a "+s+" "+sign+"(b "+s+" c)"), postfix(t, "a b c "+s+" "+word+" "+s), none)
			expectParse(t, tokensOf(t, sign+"(a "+s+" b) "+s+" c"), postfix(t, "a b "+s+" "+word+" c "+s), none)
		}
	}
}

// TestParseIgnoresOffsets gives the tokens offsets of all sorts.
func TestParseIgnoresOffsets(t *testing.T) {
	for _, at := range []int{0, -1, 5, math.MaxInt, math.MinInt} {
		l := tokensOf(t, "a - 2")
		for k := range l {
			l[k].At = at
		}
		expectParse(t, l, postfix(t, "a 2 -"), none)
	}
}

func TestParseNothing(t *testing.T) {
	expectParse(t, nil, nil, failed(api.ErrSyntax, 0))
	expectParse(t, []api.Token{}, nil, failed(api.ErrSyntax, 0))
}

// TestParseSyntax compares lines with the position of the token that is wrong or absent.
func TestParseSyntax(t *testing.T) {
	for line, at := range map[string]int{
		"2 +": 2, "-": 1, "~": 1, "(": 1, "- -": 2, "(a": 2, "(a +": 3, "(a + b": 4, "((a)": 4, "a * (": 3, "-(": 2, "a + -": 3,
		")": 0, "+": 0, "* a": 0, "<<": 0, ",": 0, ":": 0, "=": 0, "@": 0, "@a": 0, "+ a": 0, "()": 1, "( )": 1, "-)": 1, "~+a": 1, "- * a": 1,
		"a b": 1, "a 1": 1, "1 a": 1, "1 2": 1, "a )": 1, "a (": 1, "a ( b )": 1, "a ~": 1, "a ~ b": 1, "a , b": 1, "a : b": 1, "a = b": 1, "a @": 1,
		"a + b c": 3, "(a) b": 3, "(a) (b)": 3, "(a))": 3, "-a)": 2, "a + b)": 3, "a + b,": 3, "a + ~b ~": 4,
		"a + )": 2, "a + * b": 2, "a * / b": 2, "a << << b": 2, "a - + b": 2, "a + ,": 2, "a | (b + )": 5, "a + @ b": 2,
		"(a b)": 2, "(a ~ b)": 2, "(a , b)": 2, "(a : b)": 2, "(a (b))": 2, "((a) b)": 4, "(a = 1)": 2, "(a + b c)": 4, "-(a b)": 3,
		"(a + (b - c) d)": 8, "a + + b )": 2, "a b (": 1,
	} {
		expectParse(t, tokensOf(t, line), nil, failed(api.ErrSyntax, at))
	}
}

// TestParseMalformed puts each element that is no token at several positions, behind and in front of other errors.
func TestParseMalformed(t *testing.T) {
	l := tokensOf(t, "a + ) - b b * 1")
	for _, wrong := range wrongTokens() {
		expectParse(t, []api.Token{wrong}, nil, failed(api.ErrMalformed, 0))
		for k := range l {
			changed := slices.Clone(l)
			changed[k] = wrong
			expectParse(t, changed, nil, failed(api.ErrMalformed, k))
			changed[len(l)-1] = api.Token{}
			expectParse(t, changed, nil, failed(api.ErrMalformed, k))
		}
	}
	long := slices.Repeat(l[:1], 100_000)
	expectParse(t, long, nil, failed(api.ErrSyntax, 1))
	long[len(long)-1].Value = 1
	expectParse(t, long, nil, failed(api.ErrMalformed, len(long)-1))
}

// nested puts a line into signs -, ~ and (.
func nested(signs, line string) string {
	return signs + line + strings.Repeat(")", strings.Count(signs, "("))
}

// signsOf are sequences of n signs -, ~ and (.
func signsOf(n int) []string {
	var l []string
	for _, some := range []string{"(", "-", "~", "-(", "(-", "~-", "(~", "~(", "-~(", "((-", "(--~", "~~(-"} {
		l = append(l, strings.Repeat(some, n)[:n])
	}
	return l
}

// wordsOf returns the words of an operand in signs -, ~ and (, in postorder.
func wordsOf(signs, operand string) string {
	for k := range signs {
		switch signs[len(signs)-1-k] {
		case '-':
			operand += " neg"
		case '~':
			operand += " ~"
		}
	}
	return operand
}

// TestParseDepth has MaxDepth signs that contain each other, and one more. One behind the other, they do not contain each other; nor do binary signs contain any.
func TestParseDepth(t *testing.T) {
	for _, signs := range signsOf(api.MaxDepth) {
		want := wordsOf(signs, "a")
		expectParse(t, tokensOf(t, nested(signs, "a")), postfix(t, want), none)
		expectParse(t, tokensOf(t, nested(signs, "a")+"-"+nested(signs, "a")), postfix(t, want+" "+want+" -"), none)
		expectParse(t, tokensOf(t, "b-c*"+nested(signs, "a")), postfix(t, "b c "+want+" * -"), none)
		for _, sign := range []string{"-", "~", "("} {
			tooLarge := failed(api.ErrTooLarge, api.MaxDepth)
			expectParse(t, tokensOf(t, nested(signs+sign, "a")), nil, tooLarge)
			expectParse(t, tokensOf(t, signs+sign), nil, tooLarge)
			expectParse(t, tokensOf(t, signs+sign+") b"), nil, tooLarge)
			expectParse(t, tokensOf(t, strings.Repeat(signs+sign, 100)), nil, tooLarge)
			expectParse(t, tokensOf(t, "1 + "+nested(signs+sign, "a")), nil, failed(api.ErrTooLarge, 2+api.MaxDepth))
			expectParse(t, tokensOf(t, "a b "+nested(signs+sign, "a")), nil, failed(api.ErrSyntax, 1))
			expectParse(t, tokensOf(t, signs+")"+sign), nil, failed(api.ErrSyntax, api.MaxDepth))
		}
	}
}

// TestParseDepthEnds has signs behind those that contain others, and binary signs within MaxDepth parentheses.
func TestParseDepthEnds(t *testing.T) {
	front, back := strings.Repeat("(", api.MaxDepth-1), strings.Repeat(")", api.MaxDepth-1)
	expectParse(t, tokensOf(t, front+"-a - -b + (c) * ~d"+back), postfix(t, "a neg b neg - c d ~ * +"), none)
	expectParse(t, tokensOf(t, front+"a"+back+" + "+front+"-b"+back), postfix(t, "a b neg +"), none)
	expectParse(t, tokensOf(t, "("+front+"a - b)"+back), postfix(t, "a b -"), none)
	expectParse(t, tokensOf(t, "("+front+"a - -b)"+back), nil, failed(api.ErrTooLarge, api.MaxDepth+2))
	expectParse(t, tokensOf(t, "("+front+"a * (b))"+back), nil, failed(api.ErrTooLarge, api.MaxDepth+2))
	expectParse(t, tokensOf(t, front+"-a - - -b"+back), nil, failed(api.ErrTooLarge, api.MaxDepth+3))
	expectParse(t, tokensOf(t, front+"(a) - -(b)"+back), nil, failed(api.ErrTooLarge, api.MaxDepth+4))
}

// terms is how many numbers have a sum of one node less than MaxExpr.
const terms = api.MaxExpr / 2

// sumOf returns a sum of n numbers, which has 2*n - 1 tokens and as many nodes, and the words of these nodes.
func sumOf(n int) (string, string) {
	return "1" + strings.Repeat("+1", n-1), "1" + strings.Repeat(" 1 +", n-1)
}

// TestParseManyNodes has as many nodes as are permitted, of which the last one is unary or binary, and then other errors.
func TestParseManyNodes(t *testing.T) {
	sum, words := sumOf(terms)
	expectParse(t, tokensOf(t, sum), postfix(t, words), none)
	expectParse(t, tokensOf(t, "-("+sum+")"), postfix(t, words+" neg"), none)
	expectParse(t, tokensOf(t, "((-(("+sum+"))))"), postfix(t, words+" neg"), none)
	less, words := sumOf(terms - 1)
	expectParse(t, tokensOf(t, less+" + -1"), postfix(t, words+" 1 neg +"), none)
	expectParse(t, tokensOf(t, less+" * ~1"), postfix(t, strings.TrimSuffix(words, "+")+"1 ~ * +"), none)
	expectParse(t, tokensOf(t, less+" )"), nil, failed(api.ErrSyntax, 2*(terms-1)-1))
	expectParse(t, tokensOf(t, sum+" 1"), nil, failed(api.ErrSyntax, 2*terms-1))
	expectParse(t, tokensOf(t, "- -("+sum), nil, failed(api.ErrSyntax, 2*terms+2))
	expectParse(t, tokensOf(t, "-("+sum+") 1 1"), nil, failed(api.ErrSyntax, 2*terms+2))
	expectParse(t, tokensOf(t, "-("+sum+") + + 1"), nil, failed(api.ErrSyntax, 2*terms+3))
}

// TestParseTooManyNodes has one node more than permitted, at the position behind its tokens, whatever follows there.
func TestParseTooManyNodes(t *testing.T) {
	sum, _ := sumOf(terms)
	more, _ := sumOf(terms + 1)
	for _, rest := range []string{"", ")", " a", " + a", " | + )", ",", " ~", " ( 1", "= 1 @"} {
		for line, at := range map[string]int{
			more:                  2*terms + 1, // the last sum
			"(" + more:            2*terms + 2,
			"2*" + more:           2*terms + 1,
			sum + "|1*2":          2*terms + 3, // the number 2
			"-(" + sum + ")+1":    2*terms + 4, // the number 1
			"-(" + sum + ")*a":    2*terms + 4, // the name
			"-" + sum + "|1":      2*terms + 2, // the number behind the last sign
			"(" + sum + ")|-1":    2*terms + 4, // the negative of 1
			"((" + sum + ")|1)":   2*terms + 4, // the last operation
			"~-(" + sum + ")":     2*terms + 3, // the inverse
			"-((-(" + sum + ")))": 2*terms + 7, // the outer negative
			"1|-((" + sum + "))":  2*terms + 6, // the negative
		} {
			expectParse(t, tokensOf(t, line+rest), nil, failed(api.ErrTooMany, at))
		}
	}
	expectParse(t, tokensOf(t, strings.Repeat("1+", 1000)+"1"), nil, failed(api.ErrTooMany, 2*terms+1))
	expectParse(t, tokensOf(t, strings.Repeat("1+", 1000)), nil, failed(api.ErrTooMany, 2*terms+1))
	expectParse(t, tokensOf(t, "-("+sum+")+"+strings.Repeat("-", api.MaxDepth+1)+"1"), nil, failed(api.ErrTooLarge, 2*terms+3+api.MaxDepth))
	expectParse(t, tokensOf(t, "-("+sum+")+"+strings.Repeat("-", api.MaxDepth)+"1"), nil, failed(api.ErrTooMany, 2*terms+4+api.MaxDepth))
}
