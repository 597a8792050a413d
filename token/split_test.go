package token_test

import (
	"strings"
	"testing"

	"linkhouse/api"
)

func TestSplit(t *testing.T) {
	for line, want := range map[string][]api.Token{
		"add r1, 0x10":       {name("add", 0), name("r1", 4), sign(",", 6), number(16, 8)},
		"\tadd  r1,\t 16 \t": {name("add", 1), name("r1", 6), sign(",", 8), number(16, 11)},
		"a<<2":               {name("a", 0), sign("<<", 1), number(2, 3)},
		"main:push r6":       {name("main", 0), sign(":", 4), name("push", 5), name("r6", 10)},
		".word (a-b)/4":      {name(".word", 0), sign("(", 6), name("a", 7), sign("-", 8), name("b", 9), sign(")", 10), sign("/", 11), number(4, 12)},
		"x=0":                {name("x", 0), sign("=", 1), number(0, 2)},
		"a@b":                {name("a", 0), sign("@", 1), name("b", 2)},
		"0 0":                {number(0, 0), number(0, 2)},
		"0\t0x1":             {number(0, 0), number(1, 2)},
		"1,2":                {number(1, 0), sign(",", 1), number(2, 2)},
		"-1":                 {sign("-", 0), number(1, 1)},
		"- 1":                {sign("-", 0), number(1, 2)},
		"+0x1":               {sign("+", 0), number(1, 1)},
		"1-1":                {number(1, 0), sign("-", 1), number(1, 2)},
		"~-a":                {sign("~", 0), sign("-", 1), name("a", 2)},
		"ab":                 {name("ab", 0)},
		"a b":                {name("a", 0), name("b", 2)},
		"a\tb":               {name("a", 0), name("b", 2)},
		"1 a":                {number(1, 0), name("a", 2)},
		"0 x1":               {number(0, 0), name("x1", 2)},
		"a.1":                {name("a.1", 0)},
	} {
		expectSplit(t, line, want, none)
	}
}

func TestSplitNothing(t *testing.T) {
	for _, line := range []string{"", " ", "\t", " \t \t\t  ", ";", ";;", " ;", "\t; a", ";1a", ";!\xff\x00\n", "; 4294967296 <"} {
		expectSplit(t, line, nil, none)
	}
}

// TestSplitComments puts what is no token behind a semicolon, in front of which there is a token, and a space or not.
func TestSplitComments(t *testing.T) {
	for _, rest := range []string{"", ";", "b", " b !", "1a", "<", "\xff", "\n", "a\nb", "\x00", "\u00e4", strings.Repeat("a", 100), "\"", "'"} {
		expectSplit(t, "a;"+rest, []api.Token{name("a", 0)}, none)
		expectSplit(t, " 12 ;"+rest, []api.Token{number(12, 1)}, none)
		expectSplit(t, "<<;"+rest, []api.Token{sign("<<", 0)}, none)
		expectSplit(t, "<;"+rest, nil, syntax(0))
		expectSplit(t, "a 1a;"+rest, nil, syntax(2))
		expectSplit(t, "0x;"+rest, nil, syntax(0))
	}
}

// TestSplitSigns divides all sequences of three signs, without and with spaces, of which none is taken for another.
func TestSplitSigns(t *testing.T) {
	for _, a := range allSigns() {
		expectSplit(t, a, []api.Token{sign(a, 0)}, none)
		for _, b := range allSigns() {
			for _, c := range allSigns() {
				second := len(a)
				third := second + len(b)
				expectSplit(t, a+b+c, []api.Token{sign(a, 0), sign(b, second), sign(c, third)}, none)
				expectSplit(t, a+" "+b+"\t "+c, []api.Token{sign(a, 0), sign(b, second+1), sign(c, third+3)}, none)
			}
		}
	}
}

func TestSplitSingleAngles(t *testing.T) {
	for line, at := range map[string]int{
		"<": 0, ">": 0, "< <": 0, "> >": 0, "<\t<": 0, "<>": 0, "><": 0, "<=": 0, ">=": 0, "=<": 1, "=>": 1, "->": 1, "<a": 0, ">1": 0,
		"a<": 1, "a>": 1, "a < b": 2, "a <": 2, "1>2": 1, "<<<": 2, ">>>": 2, "<<>": 2, ">><": 2, "<>>": 0, "><<": 0,
		"<<<<<": 4, ">>>>>": 4, "<<>><": 4, "<< <": 3, " <<\t>": 4, "<;<": 0, "<< > !": 3,
	} {
		expectSplit(t, line, nil, syntax(at))
	}
}

// TestSplitNames divides each name alone and between other tokens.
func TestSplitNames(t *testing.T) {
	for _, text := range names() {
		end := len(text)
		expectSplit(t, text, []api.Token{name(text, 0)}, none)
		expectSplit(t, "\t"+text+" ", []api.Token{name(text, 1)}, none)
		expectSplit(t, text+";"+text, []api.Token{name(text, 0)}, none)
		expectSplit(t, "("+text+")", []api.Token{sign("(", 0), name(text, 1), sign(")", 1+end)}, none)
		expectSplit(t, text+" "+text, []api.Token{name(text, 0), name(text, 1+end)}, none)
		expectSplit(t, "1 "+text+">>"+text, []api.Token{number(1, 0), name(text, 2), sign(">>", 2+end), name(text, 4+end)}, none)
	}
}

func TestSplitNumbers(t *testing.T) {
	for _, n := range numbers() {
		end := len(n.text)
		expectSplit(t, n.text, []api.Token{number(n.value, 0)}, none)
		expectSplit(t, " "+n.text+"\t", []api.Token{number(n.value, 1)}, none)
		expectSplit(t, n.text+";"+n.text, []api.Token{number(n.value, 0)}, none)
		expectSplit(t, "-"+n.text+":", []api.Token{sign("-", 0), number(n.value, 1), sign(":", 1+end)}, none)
		expectSplit(t, n.text+"<<"+n.text+" a", []api.Token{number(n.value, 0), sign("<<", end), number(n.value, end+2), name("a", 2*end+3)}, none)
	}
}

// TestSplitWrongWords has sequences of name bytes that are neither a name nor a number, which are rejected at their beginning, and not where they go wrong.
func TestSplitWrongWords(t *testing.T) {
	long := []string{longName + "a", "a" + longName, strings.Repeat("z", api.MaxName+1), strings.Repeat("_", 1000)}
	for _, word := range append(wrongNumbers(), long...) {
		expectSplit(t, word, nil, syntax(0))
		expectSplit(t, "  "+word, nil, syntax(2))
		expectSplit(t, word+" !", nil, syntax(0))
		expectSplit(t, word+"!", nil, syntax(0))
		expectSplit(t, word+"+1", nil, syntax(0))
		expectSplit(t, "a+"+word+")", nil, syntax(2))
		expectSplit(t, "0x10,\t"+word+" "+word, nil, syntax(6))
		expectSplit(t, "1;"+word, []api.Token{number(1, 0)}, none)
	}
}

// isTokenByte tells whether a byte can be in a token, or separates tokens, or begins a comment; those of < and > need a second one.
func isTokenByte(b string) bool {
	return strings.Contains("abcdefghijklmnopqrstuvwxyzABCDEFGHIJKLMNOPQRSTUVWXYZ0123456789._$+-*/%&|^~(),:=@<> \t;", b)
}

// TestSplitOtherBytes puts each byte that belongs to no token at the beginning of a line, in a name, and behind tokens.
func TestSplitOtherBytes(t *testing.T) {
	count := 0
	for _, b := range allBytes() {
		if isTokenByte(b) {
			continue
		}
		count++
		expectSplit(t, b, nil, syntax(0))
		expectSplit(t, b+b, nil, syntax(0))
		expectSplit(t, "a"+b, nil, syntax(1))
		expectSplit(t, "ab"+b+"c", nil, syntax(2))
		expectSplit(t, "12"+b, nil, syntax(2))
		expectSplit(t, "<<"+b+"<", nil, syntax(2))
		expectSplit(t, "a 1 "+b+" 2", nil, syntax(4))
		expectSplit(t, "1a"+b, nil, syntax(0))
		expectSplit(t, b+" 1a", nil, syntax(0))
		expectSplit(t, "a;"+b, []api.Token{name("a", 0)}, none)
	}
	if want := 256 - (26 + 26 + 10 + 3 + 15 + 2 + 2 + 1); count != want {
		t.Errorf("got %d other bytes, want %d", count, want)
	}
}

// TestSplitOtherRunes has letters, digits, spaces and signs that are none here, and bytes that are no UTF-8.
func TestSplitOtherRunes(t *testing.T) {
	for _, other := range []string{"\u00e4", "\u03b1", "\u0661", "\uff11", "\u00a0", "\u2003", "\u3000", "\u00ab", "\u226a", "\uff1b", "\ufeff", "\U0001f600", "\ufffd", "\xc3", "\xe2\x82", "\xed\xa0\x80", "\xf8", "\x80"} {
		expectSplit(t, other, nil, syntax(0))
		expectSplit(t, "a"+other+"b", nil, syntax(1))
		expectSplit(t, "12 "+other, nil, syntax(3))
	}
}

// TestSplitLimit divides lines of as many bytes as are permitted, and rejects those of one more by their size alone.
func TestSplitLimit(t *testing.T) {
	for _, text := range []string{"+", "a", "0", " ", ";", "\t", "<", "!", "\xff", "\n"} {
		line := strings.Repeat(text, api.MaxText+1)
		want, fault := oracleSplit(line[:api.MaxText])
		expectSplit(t, line[:api.MaxText], want, fault)
		expectSplit(t, line, nil, tooMany)
		expectSplit(t, strings.Repeat(line, 10), nil, tooMany)
	}
	short, long := strings.Repeat("0", api.MaxText-3), strings.Repeat(" ", api.MaxText-1)
	expectSplit(t, "0x"+short+"7", []api.Token{number(7, 0)}, none)
	expectSplit(t, "0x"+short+"07", nil, tooMany)
	expectSplit(t, long+"a", []api.Token{name("a", api.MaxText-1)}, none)
	expectSplit(t, long+"1a", nil, tooMany)
	expectSplit(t, long+"!", nil, syntax(api.MaxText-1))
	expectSplit(t, "a"+long, []api.Token{name("a", 0)}, none)
	expectSplit(t, "a"+long+" ", nil, tooMany)
	expectSplit(t, "a;"+strings.Repeat("!", api.MaxText-2), []api.Token{name("a", 0)}, none)
	expectSplit(t, "a;"+strings.Repeat("!", api.MaxText-1), nil, tooMany)
}

// TestSplitEverything compares all lines of up to two bytes, and all longer ones of the bytes that matter most, with the oracle.
func TestSplitEverything(t *testing.T) {
	check := func(line string) {
		want, fault := oracleSplit(line)
		expectSplit(t, line, want, fault)
	}
	sequences("", allBytes(), 2, check)
	sequences("", []string{"a", "x", "0", "1", "<", ">", "+", " ", "\t", ";", ".", "F", "g", "!", "\xff"}, 4, check)
	sequences("", []string{"0x", "1", "4294967295", "a", longName, "<", " ", ";"}, 5, check)
	for _, front := range []string{"0x", "a", "429496729", "<", longName[1:]} {
		sequences(front, allBytes(), 1, check)
	}
}
