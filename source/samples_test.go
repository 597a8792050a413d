package source_test

import (
	"fmt"
	"math"
	"slices"
	"strings"
	"testing"

	"linkhouse/api"
	"linkhouse/source"
	"linkhouse/token"
)

var none = api.Fault{}

// failed is a fault at a position.
func failed(code, at int) api.Fault { return api.Fault{Code: code, Index: at} }

// short returns the beginning of how arguments are printed.
func short(l ...any) string { return fmt.Sprintf("%.300q", fmt.Sprint(l...)) }

// same tells whether two clauses are equal. Nil and empty lists are.
func same(a, b api.Clause) bool {
	return a.Line == b.Line && a.Label == b.Label && a.Name == b.Name && slices.EqualFunc(a.Args, b.Args, slices.Equal[[]api.Token])
}

// expectParse parses lines and compares both results. A fault comes with nil only.
func expectParse(t *testing.T, lines []string, want []api.Clause, fault api.Fault) {
	t.Helper()
	got, gotFault := source.Parse(lines)
	if !slices.EqualFunc(got, want, same) || gotFault != fault || fault != none && got != nil {
		t.Fatalf("%s: got %s, want %s", short(strings.Join(lines, "|")), short(gotFault, got), short(fault, want))
	}
}

// expectPrint prints clauses and compares both results. A fault comes with nil only.
func expectPrint(t *testing.T, l []api.Clause, want []string, fault api.Fault) {
	t.Helper()
	got, gotFault := source.Print(l)
	if !slices.Equal(got, want) || gotFault != fault || fault != none && got != nil {
		t.Fatalf("%s: got %s, want %s", short(l), short(gotFault, strings.Join(got, "|")), short(fault, strings.Join(want, "|")))
	}
}

// parses parses a line alone, and behind others, and compares the clause.
func parses(t *testing.T, line string, want api.Clause) {
	t.Helper()
	expectParse(t, []string{line}, []api.Clause{want}, none)
	moved := want
	moved.Line = 3
	expectParse(t, []string{"nop", "", "; a", line, ""}, []api.Clause{clause(0, "", "nop"), moved}, none)
}

// rejectsLine parses a line alone, and between others, and compares the fault.
func rejectsLine(t *testing.T, line string, code int) {
	t.Helper()
	expectParse(t, []string{line}, nil, failed(code, 0))
	expectParse(t, []string{"a: nop", "", line, "nop"}, nil, failed(code, 2))
}

// prints prints a clause of the line 0 alone, and as a later one, and compares the line.
func prints(t *testing.T, c api.Clause, want string) {
	t.Helper()
	expectPrint(t, []api.Clause{c}, []string{want}, none)
	c.Line = 5
	expectPrint(t, []api.Clause{clause(2, "", "nop"), c}, []string{"", "", "nop", "", "", want}, none)
}

// rejectsClause prints a clause of the line 0 alone, and between others, and compares the fault.
func rejectsClause(t *testing.T, c api.Clause, code int) {
	t.Helper()
	expectPrint(t, []api.Clause{c}, nil, failed(code, 0))
	c.Line = 7
	expectPrint(t, []api.Clause{clause(1, "a", "nop"), clause(6, "", "nop"), c, clause(8, "", "nop")}, nil, failed(code, 2))
}

// clause returns a clause whose arguments are written as texts.
func clause(line int, label, name string, arguments ...string) api.Clause {
	c := api.Clause{Line: line, Label: label, Name: name}
	for _, text := range arguments {
		c.Args = append(c.Args, argument(text))
	}
	return c
}

// argument returns the tokens of a text, with the offset 0.
func argument(text string) []api.Token {
	l, fault := token.Split(text)
	if fault != none {
		panic("no tokens: " + text)
	}
	for k := range l {
		l[k].At = 0
	}
	return l
}

// wrongLines are lines that cannot be divided into tokens.
func wrongLines() []string {
	return []string{"1a", "nop !", "add r1, r2?", "a: 00", "x = 4294967296", strings.Repeat("a", api.MaxName+1), "nop\n", "nop \xff", "a<b", "\"", "ä", "[", "\\a", "#", "0x", "\x00", "\r"}
}

// wrongElements are elements of arguments that are no tokens with the offset 0.
func wrongElements() []api.Token {
	return []api.Token{
		{},
		{Text: "a"},
		{Kind: -1, Text: "a"},
		{Kind: 4, Text: "a"},
		{Kind: math.MaxInt},
		{Kind: math.MinInt},
		{Kind: api.TokenName},
		{Kind: api.TokenName, Text: "1"},
		{Kind: api.TokenName, Text: "a b"},
		{Kind: api.TokenName, Text: "a "},
		{Kind: api.TokenName, Text: ","},
		{Kind: api.TokenName, Text: strings.Repeat("a", api.MaxName+1)},
		{Kind: api.TokenName, Text: "a", Value: 1},
		{Kind: api.TokenName, Text: "a", At: 1},
		{Kind: api.TokenName, Text: "a", At: -1},
		{Kind: api.TokenNumber, Value: -1},
		{Kind: api.TokenNumber, Value: 1 << 32},
		{Kind: api.TokenNumber, Text: "1"},
		{Kind: api.TokenNumber, Value: 1, At: 1},
		{Kind: api.TokenNumber, Value: 1, At: math.MinInt},
		{Kind: api.TokenSign},
		{Kind: api.TokenSign, Text: "a"},
		{Kind: api.TokenSign, Text: "<"},
		{Kind: api.TokenSign, Text: "++"},
		{Kind: api.TokenSign, Text: ";"},
		{Kind: api.TokenSign, Text: "+", Value: 1},
		{Kind: api.TokenSign, Text: "+", At: math.MaxInt},
	}
}

// longLine returns a line of a number of bytes that has a clause, with a name of many arguments.
func longLine(t *testing.T, size int) (string, api.Clause) {
	t.Helper()
	c := clause(0, "", "a")
	line := "a"
	for len(line)+len(" bbb") < size {
		c.Args = append(c.Args, argument("b"))
		line += " b,"
	}
	for _, last := range []string{"b", "bb", "bbb"} {
		if full := line + " " + last; len(full) == size {
			c.Args = append(c.Args, argument(last))
			return full, c
		}
	}
	t.Fatalf("no line of %d bytes", size)
	return "", api.Clause{}
}
