package source_test

import (
	"math/rand"
	"regexp"
	"slices"
	"strconv"
	"strings"
	"testing"

	"linkhouse/api"
	"linkhouse/source"
)

// A word stands for a token: n for a name, 0 for a number, and each sign that matters here for itself; + stands for other signs.
const words = "n0,():=+"

// labelled and named match the words of what is in front of arguments.
var (
	labelled = regexp.MustCompile(`^n:`)
	assigned = regexp.MustCompile(`^n=`)
	named    = regexp.MustCompile(`^n`)
)

// tokenOf returns the token of a word at a position. Names and numbers differ from those at other positions.
func tokenOf(word byte, position int) api.Token {
	switch word {
	case 'n':
		return api.Token{Kind: api.TokenName, Text: "n" + strconv.Itoa(position)}
	case '0':
		return api.Token{Kind: api.TokenNumber, Value: position}
	}
	return api.Token{Kind: api.TokenSign, Text: string([]byte{word})}
}

// textOf returns the text of a token.
func textOf(t api.Token) string {
	if t.Kind == api.TokenNumber {
		return strconv.Itoa(t.Value)
	}
	return t.Text
}

// tokensOf returns the tokens of words from a position on.
func tokensOf(text string, position int) []api.Token {
	var l []api.Token
	for k := range len(text) {
		l = append(l, tokenOf(text[k], position+k))
	}
	return l
}

// lineOf returns a line with the tokens of words.
func lineOf(text string) string {
	var texts []string
	for _, t := range tokensOf(text, 0) {
		texts = append(texts, textOf(t))
	}
	return strings.Join(texts, " ")
}

// oracleArguments cuts words, which begin at a position, at each comma that has equally many parentheses of both sorts before it.
func oracleArguments(text string, position int) ([][]api.Token, bool) {
	from, ok := 0, true
	var arguments [][]api.Token
	for at := range len(text) + 1 {
		before := text[:at]
		if at == len(text) || text[at] == ',' && strings.Count(before, "(") == strings.Count(before, ")") {
			arguments = append(arguments, tokensOf(text[from:at], position+from))
			ok = ok && from < at
			from = at + 1
		}
	}
	return arguments, ok
}

// oracleParse returns the clause of words, and whether there is one. There must be words.
func oracleParse(text string) (api.Clause, bool) {
	var c api.Clause
	ok, at := true, 0
	if labelled.MatchString(text) {
		c.Label, at = tokenOf('n', 0).Text, 2
	}
	switch rest := text[at:]; {
	case rest == "":
		return c, true
	case assigned.MatchString(rest):
		c.Args, ok = oracleArguments(rest[2:], at+2)
		c.Name, c.Args = "=", slices.Insert(c.Args, 0, tokensOf("n", at))
	case rest == "n":
		c.Name = tokenOf('n', at).Text
	case named.MatchString(rest):
		c.Args, ok = oracleArguments(rest[1:], at+1)
		c.Name = tokenOf('n', at).Text
	default:
		ok = false
	}
	return c, ok
}

// sequences calls a function with all texts of up to a number of words, the empty one too.
func sequences(front string, size int, each func(string)) {
	each(front)
	if size == 0 {
		return
	}
	for k := range len(words) {
		sequences(front+words[k:k+1], size-1, each)
	}
}

// checkParse compares the clause of words with the oracle, and tells whether there is one.
func checkParse(t *testing.T, text string) bool {
	t.Helper()
	line := lineOf(text)
	want, ok := oracleParse(text)
	if !ok {
		expectParse(t, []string{line}, nil, failed(api.ErrSyntax, 0))
		return false
	}
	expectParse(t, []string{line}, []api.Clause{want}, none)
	checkPrintAgain(t, line)
	return true
}

// checkPrintAgain prints the clause of a line and parses it again.
func checkPrintAgain(t *testing.T, line string) {
	t.Helper()
	l, _ := source.Parse([]string{line})
	printed, fault := source.Print(l)
	if fault != none || len(printed) != 1 || withoutBlanks(printed[0]) != withoutBlanks(line) {
		t.Fatalf("%q: got %q and %v", line, printed, fault)
	}
	expectParse(t, printed, l, none)
}

func withoutBlanks(text string) string { return strings.ReplaceAll(text, " ", "") }

// TestParseEverything compares all lines of a few tokens with the oracle.
func TestParseEverything(t *testing.T) {
	counts := map[bool]int{}
	sequences("", 5, func(text string) {
		if text != "" {
			counts[checkParse(t, text)]++
		}
	})
	for _, front := range []string{"n:n=", "n:n0,", "n=0,", "n(", "n)", "n(,(", "n),", "n:n"} {
		sequences(front, 4, func(text string) { counts[checkParse(t, text)]++ })
	}
	if counts[true] < 10_000 || counts[false] < 10_000 {
		t.Errorf("got %v", counts)
	}
}

// TestParseRandom compares longer lines with the oracle.
func TestParseRandom(t *testing.T) {
	r := rand.New(rand.NewSource(1))
	counts := map[bool]int{}
	for range 20_000 {
		text := []byte([]string{"n", "n:", "n=", "n:n", "n:n=", ""}[r.Intn(6)])
		for range 1 + r.Intn(40) {
			word := words[r.Intn(len(words))]
			if word == ',' && (len(text) == 0 || text[len(text)-1] == ',') {
				word = 'n'
			}
			text = append(text, word)
		}
		counts[checkParse(t, string(text))]++
	}
	if counts[true] < 2000 || counts[false] < 2000 {
		t.Errorf("got %v", counts)
	}
}

// balances returns, for words, the difference of the parentheses of both sorts at each comma, and at the end.
func balances(text string) []int {
	var l []int
	for at := range len(text) + 1 {
		if at == len(text) || text[at] == ',' {
			l = append(l, strings.Count(text[:at], "(")-strings.Count(text[:at], ")"))
		}
	}
	return l
}

// areArguments tells whether no argument is empty or would be cut, and no two of them would be read as one.
func areArguments(arguments []string) bool {
	for k, text := range arguments {
		l := balances(text)
		end := len(l) - 1
		if text == "" || slices.Contains(l[:end], 0) || l[end] != 0 && k < len(arguments)-1 {
			return false
		}
	}
	return true
}

// isPrintable tells whether a clause with a label, or none, a Name that is one of words, "=" or nothing, and arguments of words can be printed.
func isPrintable(hasLabel bool, name string, arguments []string) bool {
	switch name {
	case "":
		return hasLabel && len(arguments) == 0
	case "=":
		return len(arguments) > 1 && arguments[0] == "n" && areArguments(arguments[1:])
	case "n":
		if len(arguments) > 0 && (strings.HasPrefix(arguments[0], "=") || !hasLabel && strings.HasPrefix(arguments[0], ":")) {
			return false
		}
		return areArguments(arguments)
	}
	return false
}

// oracleLine returns the line of a clause that can be printed, word by word.
func oracleLine(c api.Clause) string {
	var l []string
	if c.Label != "" {
		l = append(l, c.Label+":")
	}
	if c.Name != "" && c.Name != "=" {
		l = append(l, c.Name)
	}
	for k, argument := range c.Args {
		for _, t := range argument {
			l = append(l, textOf(t))
		}
		switch {
		case k == 0 && c.Name == "=":
			l = append(l, "=")
		case k < len(c.Args)-1:
			l[len(l)-1] += ","
		}
	}
	return strings.Join(l, " ")
}

// checkPrint compares the line of a clause, whose label, Name and arguments are words, with the oracle, and tells whether there is one.
func checkPrint(t *testing.T, label, name string, arguments []string) bool {
	t.Helper()
	c := api.Clause{Label: label, Name: name}
	if name == "n" {
		c.Name = "name"
	}
	for k, text := range arguments {
		c.Args = append(c.Args, tokensOf(text, 10*k))
	}
	if !isPrintable(label != "", name, arguments) {
		expectPrint(t, []api.Clause{c}, nil, failed(api.ErrMalformed, 0))
		return false
	}
	expectPrint(t, []api.Clause{c}, []string{oracleLine(c)}, none)
	return true
}

// TestPrintEverything compares the lines of all clauses of a few arguments, which have a few tokens, with the oracle.
func TestPrintEverything(t *testing.T) {
	counts := map[bool]int{}
	check := func(arguments ...string) {
		for _, label := range []string{"", "l"} {
			for _, name := range []string{"", "n", "=", "+"} {
				counts[checkPrint(t, label, name, arguments)]++
			}
		}
	}
	check()
	sequences("", 4, func(a string) { check(a) })
	sequences("", 2, func(a string) {
		sequences("", 2, func(b string) { check(a, b) })
	})
	sequences("", 1, func(a string) {
		sequences("", 2, func(b string) {
			check("n", b, a)
			sequences("", 1, func(c string) { check(a, b, c) })
		})
	})
	if counts[true] < 5000 || counts[false] < 5000 {
		t.Errorf("got %v", counts)
	}
}
