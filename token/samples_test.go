package token_test

import (
	"math/big"
	"regexp"
	"slices"
	"strings"
	"testing"

	"linkhouse/api"
	"linkhouse/token"
)

// The faults of the package that have no position.
var (
	none     = api.Fault{}
	tooMany  = api.Fault{Code: api.ErrTooMany, Index: -1}
	tooLarge = api.Fault{Code: api.ErrTooLarge, Index: -2}
)

// syntax is the fault of a line at an offset.
func syntax(at int) api.Fault { return api.Fault{Code: api.ErrSyntax, Index: at} }

// malformed is the fault of a list at a position.
func malformed(k int) api.Fault { return api.Fault{Code: api.ErrMalformed, Index: k} }

func name(text string, at int) api.Token {
	return api.Token{Kind: api.TokenName, Text: text, At: at}
}

func number(value, at int) api.Token {
	return api.Token{Kind: api.TokenNumber, Value: value, At: at}
}

func sign(text string, at int) api.Token {
	return api.Token{Kind: api.TokenSign, Text: text, At: at}
}

// expectSplit divides a line and compares both results. A fault comes with nil only.
func expectSplit(t *testing.T, line string, want []api.Token, fault api.Fault) {
	t.Helper()
	got, gotFault := token.Split(line)
	if !slices.Equal(got, want) || gotFault != fault || fault != none && got != nil {
		t.Fatalf("%.99q: got %.199v %v, want %.199v %v", line, got, gotFault, want, fault)
	}
}

func expectJoin(t *testing.T, l []api.Token, want string, fault api.Fault) {
	t.Helper()
	got, gotFault := token.Join(l)
	if got != want || gotFault != fault {
		t.Fatalf("%.199v: got %.99q %v, want %.99q %v", l, got, gotFault, want, fault)
	}
}

// allSigns are the signs as the chapter lists them.
func allSigns() []string {
	return []string{"<<", ">>", "+", "-", "*", "/", "%", "&", "|", "^", "~", "(", ")", ",", ":", "=", "@"}
}

// longName is a name of as many bytes as are permitted.
const longName = "_aZ09.$zA_.$mM54"

// names are names with name bytes of all sorts, at their beginning and behind it.
func names() []string {
	return []string{
		"a", "z", "A", "Z", ".", "_", "$", "add", "r1", "x", "x0", "_0x", ".1", "$0", "..", "._$", "a.b", "a0123456789",
		"aAzZ", "Xyz", "b0x1", "xffff", longName, strings.Repeat("a", api.MaxName), strings.Repeat("$", api.MaxName), "a123456789012345",
	}
}

// wrongNames are texts that are no names; none of them is a number or a sign.
func wrongNames() []string {
	return []string{
		"", "1a", "0a", "9_", "7.", "00", "01", longName + "a", strings.Repeat("a", api.MaxName+1), strings.Repeat("a", 1000), "0" + longName,
		" ", "a ", " a", "a b", "a\tb", "a+", "+a", "a;", ";", ";a", "a\n", "a\x00", "\x00", "a-b", "a!", "#a", "a\"", "a@b", "a[", "`a", "{a", "a^", "/a",
		"\xff", "a\xff", "\xc3", "\u00e4", "a\u00e4", "\u0660", "\ufffd", "a\u200b", "\u212a", "\uff41",
	}
}

// numbered is a number with a text.
type numbered struct {
	text  string
	value int
}

// numbers are numbers in all ways of writing them.
func numbers() []numbered {
	return []numbered{
		{"0", 0},
		{"1", 1},
		{"7", 7},
		{"9", 9},
		{"10", 10},
		{"100", 100},
		{"1234567890", 1234567890},
		{"2147483647", 2147483647},
		{"2147483648", 2147483648},
		{"4294967294", 4294967294},
		{"4294967295", 4294967295},
		{"0x0", 0},
		{"0x00", 0},
		{"0x9", 9},
		{"0xa", 10},
		{"0xA", 10},
		{"0xf", 15},
		{"0xF", 15},
		{"0x10", 16},
		{"0x0123", 0x123},
		{"0x4567", 0x4567},
		{"0x89ab", 0x89ab},
		{"0xcdef", 0xcdef},
		{"0xABCDEF", 0xabcdef},
		{"0xaBcDeF", 0xabcdef},
		{"0x7fffffff", 2147483647},
		{"0x80000000", 2147483648},
		{"0xfffffffe", 4294967294},
		{"0xffffffff", 4294967295},
		{"0xFFFFFFFF", 4294967295},
		{"0x0ffffffff", 4294967295},
		{"0x00000000000000000000000000000001", 1},
		{"0x" + strings.Repeat("0", 1000) + "ffffffff", 4294967295},
	}
}

// wrongNumbers are sequences of name bytes that begin with a digit and are no numbers.
func wrongNumbers() []string {
	return []string{
		"00", "01", "09", "000", "007", "00x1", "0_", "0.", "0$", "0a", "0f", "0g",
		"1a", "1x", "1f", "9z", "1.5", "1.", "1_0", "1_000", "1$", "1e3", "10h", "12ab34",
		"0x", "0xg", "0xG", "0x1g", "0xx", "0x.", "0x_1", "0x1_0", "0x$", "0x1.", "0x0x1", "0x1x",
		"0X", "0X1", "0Xff", "0b1", "0B1", "0b", "0o7", "0O7", "1x10", "00x10",
		"4294967296", "4294967297", "5000000000", "9999999999", "10000000000", "04294967295",
		"18446744073709551615", "18446744073709551616", "18446744073709551617", "36893488147419103233", "340282366920938463463374607431768211457",
		"0x100000000", "0x100000001", "0xfffffffff", "0x10000000000000000", "0x10000000000000001", "0xffffffffffffffff",
		"0x100000000000000000000000000000001", "1" + strings.Repeat("0", 1000), "0x1" + strings.Repeat("0", 1000), strings.Repeat("0", 1000),
	}
}

// What a line consists of, as regular expressions: at its beginning, and for a sequence of name bytes.
var (
	part       = regexp.MustCompile(`(?s)^(?:[ \t]+|;.*|<<|>>|[-+*/%&|^~(),:=@]|[.$_0-9A-Za-z]+)`)
	nameWord   = regexp.MustCompile(`^[.$_A-Za-z][.$_0-9A-Za-z]{0,15}$`)
	numberWord = regexp.MustCompile(`^(?:0|[1-9][0-9]*|0x[0-9a-fA-F]+)$`)
	signWord   = regexp.MustCompile(`^[-+*/%&|^~(),:=@<>]`)
)

// oracleNumber returns the value of a sequence of name bytes, and whether it is a number.
func oracleNumber(word string) (int, bool) {
	if !numberWord.MatchString(word) {
		return 0, false
	}
	value, _ := new(big.Int).SetString(word, 0)
	return int(value.Int64()), value.BitLen() <= 32
}

// oracleSplit divides a line with the regular expressions.
func oracleSplit(line string) ([]api.Token, api.Fault) {
	var l []api.Token
	for at := 0; at < len(line); {
		word := part.FindString(line[at:])
		value, isNumber := oracleNumber(word)
		switch {
		case word == "":
			return nil, syntax(at)
		case strings.Contains(" \t;", word[:1]):
		case signWord.MatchString(word):
			l = append(l, sign(word, at))
		case isNumber:
			l = append(l, number(value, at))
		case nameWord.MatchString(word):
			l = append(l, name(word, at))
		default:
			return nil, syntax(at)
		}
		at += len(word)
	}
	return l, none
}

// sequences calls use with all sequences of up to n elements of an alphabet, behind given bytes.
func sequences(front string, alphabet []string, n int, use func(string)) {
	use(front)
	if n == 0 {
		return
	}
	for _, next := range alphabet {
		sequences(front+next, alphabet, n-1, use)
	}
}

// allBytes are the strings of one byte.
func allBytes() []string {
	var l []string
	for b := range 256 {
		l = append(l, string([]byte{byte(b)}))
	}
	return l
}
