package token_test

import (
	"math"
	"slices"
	"strconv"
	"strings"
	"testing"

	"linkhouse/api"
	"linkhouse/token"
)

func TestJoin(t *testing.T) {
	for want, l := range map[string][]api.Token{
		"add r1 , 16":          {name("add", 0), name("r1", 4), sign(",", 6), number(16, 8)},
		"a << 2":               {name("a", 0), sign("<<", 1), number(2, 3)},
		"( a - b ) / 4":        {sign("(", 0), name("a", 0), sign("-", 0), name("b", 0), sign(")", 0), sign("/", 0), number(4, 0)},
		"- 1":                  {sign("-", 0), number(1, 0)},
		"1 2 3":                {number(1, 0), number(2, 0), number(3, 0)},
		"a b":                  {name("a", 0), name("b", 0)},
		">> << >>":             {sign(">>", 0), sign("<<", 0), sign(">>", 0)},
		"0 4294967295 : = @ x": {number(0, 0), number(math.MaxUint32, 0), sign(":", 0), sign("=", 0), sign("@", 0), name("x", 0)},
	} {
		expectJoin(t, l, want, none)
	}
}

func TestJoinNothing(t *testing.T) {
	expectJoin(t, nil, "", none)
	expectJoin(t, []api.Token{}, "", none)
}

// tokensWithTexts are tokens of all kinds, with the texts that Join gives them.
func tokensWithTexts() ([]api.Token, []string) {
	var l []api.Token
	var texts []string
	for _, text := range allSigns() {
		l, texts = append(l, sign(text, 0)), append(texts, text)
	}
	for _, text := range names() {
		l, texts = append(l, name(text, 0)), append(texts, text)
	}
	for _, value := range []int{0, 1, 9, 10, 16, 255, 2147483647, 2147483648, 4294967294, 4294967295} {
		l, texts = append(l, number(value, 0)), append(texts, strconv.Itoa(value))
	}
	return l, texts
}

// TestJoinPairs joins each token alone, all pairs, and all tokens together, and divides the results again.
func TestJoinPairs(t *testing.T) {
	l, texts := tokensWithTexts()
	for k, a := range l {
		expectJoin(t, []api.Token{a}, texts[k], none)
		expectSplit(t, texts[k], []api.Token{a}, none)
		for n, b := range l {
			line := texts[k] + " " + texts[n]
			expectJoin(t, []api.Token{a, b}, line, none)
			b.At = len(texts[k]) + 1
			expectSplit(t, line, []api.Token{a, b}, none)
		}
	}
	expectJoin(t, l, strings.Join(texts, " "), none)
}

// TestJoinIgnoresOffsets gives the tokens offsets of all sorts, in no order.
func TestJoinIgnoresOffsets(t *testing.T) {
	for _, at := range []int{0, 1, -1, 7, api.MaxText, api.MaxText + 1, math.MaxInt, math.MinInt} {
		expectJoin(t, []api.Token{name("a", at), number(5, -at), sign("+", at), name("b", 3)}, "a 5 + b", none)
	}
}

// TestJoinDecimal joins the numbers of lines in which they are written in other ways.
func TestJoinDecimal(t *testing.T) {
	for _, n := range numbers() {
		l, _ := token.Split(n.text)
		expectJoin(t, l, strconv.Itoa(n.value), none)
	}
}

// wrongTokens are elements that are no tokens.
func wrongTokens() []api.Token {
	l := []api.Token{{}}
	for _, kind := range []int{0, -1, 4, 5, math.MaxInt, math.MinInt} {
		l = append(l, api.Token{Kind: kind}, api.Token{Kind: kind, Text: "a"}, api.Token{Kind: kind, Text: "+"}, api.Token{Kind: kind, Value: 1})
	}
	for _, value := range []int{1, -1, 2, 1 << 32, math.MaxInt, math.MinInt} {
		l = append(l, api.Token{Kind: api.TokenName, Text: "a", Value: value}, api.Token{Kind: api.TokenSign, Text: "+", Value: value})
	}
	for _, value := range []int{-1, -2, 1 << 32, 1<<32 + 1, 1 << 33, -1 << 32, math.MaxInt, math.MinInt} {
		l = append(l, number(value, 0))
	}
	for _, text := range []string{"0", "1", "00", "a", "+", " ", "\x00", "\xff"} {
		l = append(l, api.Token{Kind: api.TokenNumber, Text: text}, api.Token{Kind: api.TokenNumber, Text: text, Value: 1})
	}
	for _, text := range slices.Concat(wrongNames(), wrongNumbers(), allSigns(), []string{"0", "1", "0x1", "<", ">"}) {
		l = append(l, name(text, 0))
	}
	for _, text := range slices.Concat(names(), wrongNames(), []string{"<", ">", "<>", "><", "<<<", ">>>", "<<<<", "<<>>", "++", "+ ", " +", "+-", "+a", "-1", "<+", "+<", "==", "0", "1", "?", "!", "\"", "+\xff", "\xab"}) {
		l = append(l, sign(text, 0))
	}
	return l
}

// TestJoinRejects puts each element that is no token alone, between tokens, and in front of others that are none.
func TestJoinRejects(t *testing.T) {
	a := name("a", 0)
	for _, wrong := range wrongTokens() {
		expectJoin(t, []api.Token{wrong}, "", malformed(0))
		expectJoin(t, []api.Token{a, wrong, a}, "", malformed(1))
		expectJoin(t, []api.Token{a, a, a, wrong}, "", malformed(3))
		expectJoin(t, []api.Token{a, wrong, a, {}, wrong}, "", malformed(1))
		expectJoin(t, []api.Token{a, a, {}, wrong}, "", malformed(2))
	}
}

// TestJoinEveryText compares with the oracle which texts of up to two bytes, and which longer ones of the bytes that matter most, are names and signs.
func TestJoinEveryText(t *testing.T) {
	check := func(text string) {
		want, _ := oracleSplit(text)
		for kind := range 5 {
			one := []api.Token{{Kind: kind, Text: text}}
			switch {
			case slices.Equal(one, want):
				expectJoin(t, one, text, none)
			case kind == api.TokenNumber && text == "":
				expectJoin(t, one, "0", none)
			default:
				expectJoin(t, one, "", malformed(0))
			}
		}
	}
	sequences("", allBytes(), 2, check)
	sequences("", []string{"a", "Z", "0", "9", ".", "_", "$", "+", "<", ">", " ", ";", "\xff"}, 4, check)
	for n := range 3 * api.MaxName {
		sequences(strings.Repeat("a", n), allBytes(), 1, check)
	}
}

// TestJoinManyTokens has as many tokens as are permitted, and one more, which is rejected whatever the tokens are.
func TestJoinManyTokens(t *testing.T) {
	l := slices.Repeat([]api.Token{sign("+", 0)}, api.MaxText/2+1)
	most := l[:api.MaxText/2]
	line := strings.Repeat(" +", len(most))[1:]
	expectJoin(t, most, line, none)
	expectJoin(t, l, "", tooMany)
	expectJoin(t, slices.Repeat(l, 10), "", tooMany)
	expectJoin(t, make([]api.Token, len(l)), "", tooMany)
	expectJoin(t, make([]api.Token, len(most)), "", malformed(0))
	l[0] = api.Token{}
	expectJoin(t, l, "", tooMany)
	expectJoin(t, l[1:], line, none)
	l[len(most)] = api.Token{}
	expectJoin(t, l[1:], "", malformed(len(most)-1))
}

// TestJoinLongLine has results of as many bytes as are permitted, and of one more, for which a token of each kind decides.
func TestJoinLongLine(t *testing.T) {
	signs := slices.Repeat([]api.Token{sign("+", 0)}, api.MaxText/2)
	line := strings.Repeat(" +", len(signs))[1:]
	signs[0] = sign("<<", 0)
	expectJoin(t, signs, "<<"+line[1:], none)
	signs[0] = number(10, 0)
	expectJoin(t, signs, "10"+line[1:], none)
	signs[0] = name("ab", 0)
	expectJoin(t, signs, "ab"+line[1:], none)
	for _, longer := range []api.Token{sign("<<", 0), number(10, 0), name("ab", 0)} {
		signs[len(signs)-1] = longer
		expectJoin(t, signs, "", tooLarge)
	}
	signs[0] = sign("+", 0)
	expectJoin(t, signs, line[:len(line)-1]+"ab", none)

	many := append(slices.Repeat([]api.Token{name(longName, 0)}, 470), number(math.MaxUint32, 0))
	line = strings.Repeat(longName+" ", 470) + "4294967295"
	if len(line) != api.MaxText {
		t.Fatalf("got a line of %d bytes", len(line))
	}
	expectJoin(t, many, line, none)
	many[470] = name("abcdefghijk", 0)
	expectJoin(t, many, "", tooLarge)
	many[470] = name("abcdefghij", 0)
	expectJoin(t, many, line[:api.MaxText-10]+"abcdefghij", none)
}

// TestJoinOrder checks that an element that is no token comes before a result that is too long, even behind it.
func TestJoinOrder(t *testing.T) {
	l := slices.Repeat([]api.Token{name(longName, 0)}, api.MaxText/2+1)
	expectJoin(t, l, "", tooMany)
	l = l[1:]
	expectJoin(t, l, "", tooLarge)
	for _, k := range []int{0, 1, 469, 470, 471, len(l) - 1} {
		l[k].Value = 1
		expectJoin(t, l, "", malformed(k))
		l[k].Value = 0
	}
}
