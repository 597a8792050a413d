package source_test

import (
	"slices"
	"strings"
	"testing"

	"linkhouse/api"
)

// TestNoTokens has lines without tokens, and with a comment only.
func TestNoTokens(t *testing.T) {
	expectParse(t, nil, nil, none)
	expectParse(t, []string{}, nil, none)
	expectParse(t, []string{"", " ", "\t", " \t \t", ";", "; a: nop", " \t;;", ";!\n\xff"}, nil, none)
	expectParse(t, []string{"", "; a", "a:", "", " nop ", "x = 1", ""}, []api.Clause{clause(2, "a", ""), clause(4, "", "nop"), clause(5, "", "=", "x", "1")}, none)
}

// TestLabels has labels and Names, alone and together.
func TestLabels(t *testing.T) {
	for _, line := range []string{"a:", "a :", "\ta:\t", " a : ", "a:;nop", "a: ; b: nop"} {
		parses(t, line, clause(0, "a", ""))
	}
	for _, line := range []string{"nop", " nop ", "\tnop", "nop;", "nop;a", "nop ; : = ,"} {
		parses(t, line, clause(0, "", "nop"))
	}
	for _, line := range []string{"a:nop", "a: nop", "a :nop", "\ta : nop ; x"} {
		parses(t, line, clause(0, "a", "nop"))
	}
	for _, name := range []string{"a", "Z", "_", "$", ".", ".L1", "r1", ".word", "add", strings.Repeat("a", api.MaxName)} {
		parses(t, name+":", clause(0, name, ""))
		parses(t, name, clause(0, "", name))
		parses(t, name+": "+name, clause(0, name, name))
		parses(t, name+" "+name, clause(0, "", name, name))
		parses(t, name+" = "+name, clause(0, "", "=", name, name))
	}
}

// TestOneLabel has signs ":" that follow no label.
func TestOneLabel(t *testing.T) {
	parses(t, "a: b: c", clause(0, "a", "b", ": c"))
	parses(t, "a: b:", clause(0, "a", "b", ":"))
	parses(t, "a b:", clause(0, "", "a", "b :"))
	parses(t, "a b: c", clause(0, "", "a", "b : c"))
	parses(t, "a 1: :", clause(0, "", "a", "1 : :"))
	parses(t, "a: b:, :", clause(0, "a", "b", ":", ":"))
	parses(t, "x = : 1", clause(0, "", "=", "x", ": 1"))
	for _, line := range []string{"a::", "a: :", "a:: nop", "a: : b", ":", ": a", "::", "1:", "1: nop", "+: nop", "(a): nop"} {
		rejectsLine(t, line, api.ErrSyntax)
	}
}

// TestArguments has arguments of one and of several tokens.
func TestArguments(t *testing.T) {
	parses(t, "add r1, r2", clause(0, "", "add", "r1", "r2"))
	parses(t, "a: add r1, r2", clause(0, "a", "add", "r1", "r2"))
	parses(t, "push r1", clause(0, "", "push", "r1"))
	parses(t, "load r1,r2,+4", clause(0, "", "load", "r1", "r2", "+4"))
	parses(t, "jump near +5", clause(0, "", "jump", "near + 5"))
	parses(t, "set r1, end - start + 2 * 0x10 ; size", clause(0, "", "set", "r1", "end - start + 2 * 16"))
	parses(t, ".word a b 1 2, 3 c", clause(0, "", ".word", "a b 1 2", "3 c"))
	parses(t, "m 1", clause(0, "", "m", "1"))
	parses(t, "m << >> + - * / % & | ^ ~ : @", clause(0, "", "m", "<< >> + - * / % & | ^ ~ : @"))
	parses(t, "m -1, ~a, @", clause(0, "", "m", "-1", "~a", "@"))
	parses(t, "m \t 1\t,\t2 ", clause(0, "", "m", "1", "2"))
	parses(t, "m 1;, 2", clause(0, "", "m", "1"))
	parses(t, "m 1, 2, 3, 4, 5, 6, 7, 8, 9, 10", clause(0, "", "m", "1", "2", "3", "4", "5", "6", "7", "8", "9", "10"))
}

// TestParentheses has signs "," in parentheses, and behind more signs ")" than "(".
func TestParentheses(t *testing.T) {
	parses(t, "f (1, 2), 3", clause(0, "", "f", "(1, 2)", "3"))
	parses(t, "f (1, (2, 3), 4), 5", clause(0, "", "f", "(1, (2, 3), 4)", "5"))
	parses(t, "f ((1, 2), 3, (4, 5)), (6), 7", clause(0, "", "f", "((1, 2), 3, (4, 5))", "(6)", "7"))
	parses(t, "f a(1, 2)b(3, 4)c, d", clause(0, "", "f", "a(1, 2)b(3, 4)c", "d"))
	parses(t, "f 1, (2, 3", clause(0, "", "f", "1", "(2, 3"))
	parses(t, "f ((1, 2), 3", clause(0, "", "f", "((1, 2), 3"))
	parses(t, "f ), 1", clause(0, "", "f", "), 1"))
	parses(t, "f 1, ), 2, 3", clause(0, "", "f", "1", "), 2, 3"))
	parses(t, "f ), (, 1", clause(0, "", "f", "), (", "1"))
	parses(t, "f )), (, 1", clause(0, "", "f", ")), (, 1"))
	parses(t, "f )), (1, 2(, 3", clause(0, "", "f", ")), (1, 2(", "3"))
	parses(t, "f (1)), 2, 3(, 4", clause(0, "", "f", "(1)), 2, 3(", "4"))
	parses(t, "f ()", clause(0, "", "f", "()"))
	parses(t, "f (), ()", clause(0, "", "f", "()", "()"))
	parses(t, "f )(, )(", clause(0, "", "f", ")(", ")("))
	// Nothing between commas in parentheses is no argument, so that it may be empty.
	parses(t, "f (,)", clause(0, "", "f", "(,)"))
	parses(t, "f (,,", clause(0, "", "f", "(,,"))
	parses(t, "f ),", clause(0, "", "f", "),"))
	parses(t, "x = (1, 2), 3", clause(0, "", "=", "x", "(1, 2)", "3"))
	parses(t, "x = ), 3", clause(0, "", "=", "x", "), 3"))
	parses(t, "a: x = (, 3", clause(0, "a", "=", "x", "(, 3"))
}

// TestAssignments has assignments with and without labels, with one argument and with several ones behind the sign "=".
func TestAssignments(t *testing.T) {
	parses(t, "x = 5", clause(0, "", "=", "x", "5"))
	parses(t, "x=5", clause(0, "", "=", "x", "5"))
	parses(t, "a: x = 5", clause(0, "a", "=", "x", "5"))
	parses(t, "a:x=5", clause(0, "a", "=", "x", "5"))
	parses(t, "x = 5, 6", clause(0, "", "=", "x", "5", "6"))
	parses(t, "a: x = 5, y + 1, z", clause(0, "a", "=", "x", "5", "y + 1", "z"))
	parses(t, "x = x + 1", clause(0, "", "=", "x", "x + 1"))
	parses(t, "x = y = z", clause(0, "", "=", "x", "y = z"))
	parses(t, "x = = ", clause(0, "", "=", "x", "="))
	parses(t, "x = = 1, = 2", clause(0, "", "=", "x", "= 1", "= 2"))
	parses(t, "x == 1", clause(0, "", "=", "x", "= 1"))
	// Behind the first token that follows the Name the sign is one as any other.
	parses(t, "x 1 = 5", clause(0, "", "x", "1 = 5"))
	parses(t, "x y = 5", clause(0, "", "x", "y = 5"))
	parses(t, "x 1, = 5", clause(0, "", "x", "1", "= 5"))
	parses(t, "x (= 5)", clause(0, "", "x", "(= 5)"))
	parses(t, "a: x y, =", clause(0, "a", "x", "y", "="))
	for _, line := range []string{"x =", "x=;5", "a: x =", "x = ,", "x = , 5", "x = 5,", "x = 5, , 6", "x = ,,", "a: x = 5,", "a: x = ,", "x ,= 5", "x = 5,;6"} {
		rejectsLine(t, line, api.ErrSyntax)
	}
}

// TestNoName has a first token, alone or behind a label, that is no name.
func TestNoName(t *testing.T) {
	for _, first := range []string{"1", "0x10", "=", ",", "(", ")", "+", "-", "*", "/", "%", "&", "|", "^", "~", ":", "@", "<<", ">>"} {
		for _, rest := range []string{"", " a", " = 5", " a, b", " 1", " : a", ")"} {
			rejectsLine(t, first+rest, api.ErrSyntax)
			rejectsLine(t, "a: "+first+rest, api.ErrSyntax)
		}
	}
}

// TestEmptyArguments has nothing before, between and behind signs ",".
func TestEmptyArguments(t *testing.T) {
	for _, arguments := range []string{",", ", 1", "1,", "1, , 2", "1,,2", "1, 2,", ",,", "(1), , 2", "(1, 2),", ", (1, 2)", "1, ;2", "), (,", "(), , ()", ", )", "),(,,"} {
		rejectsLine(t, "f "+arguments, api.ErrSyntax)
		rejectsLine(t, "a: f "+arguments, api.ErrSyntax)
		rejectsLine(t, "x = "+arguments, api.ErrSyntax)
	}
}

// TestOffsets has tokens at all sorts of offsets, also behind those that are no part of an argument.
func TestOffsets(t *testing.T) {
	tokens := []api.Token{{Kind: api.TokenName, Text: "b"}, {Kind: api.TokenSign, Text: "<<"}, {Kind: api.TokenNumber, Value: 16}}
	want := api.Clause{Label: "l", Name: "n", Args: [][]api.Token{tokens, tokens, tokens[:1]}}
	for _, line := range []string{"l:n b<<0x10,b<<16,b", "  l  :  n  b  <<  16  ,  b  <<  16  ,  b  ", "\tl:\tn\tb <<16\t,\tb\t<< 0x0010,\tb;b"} {
		parses(t, line, want)
	}
	x := []api.Token{{Kind: api.TokenName, Text: "x"}}
	want = api.Clause{Label: "l", Name: "=", Args: [][]api.Token{x, tokens, tokens[2:]}}
	for _, line := range []string{"l:x=b<<16,16", "  l  :  x  =  b  <<  16  ,  0x10"} {
		parses(t, line, want)
	}
}

// TestWrongLines has lines that cannot be divided, the position of the first invalid line, and its code.
func TestWrongLines(t *testing.T) {
	long := strings.Repeat(" ", api.MaxText+1)
	for _, line := range wrongLines() {
		rejectsLine(t, line, api.ErrSyntax)
		rejectsLine(t, "= "+line, api.ErrSyntax)
		expectParse(t, []string{line, long}, nil, failed(api.ErrSyntax, 0))
		expectParse(t, []string{"nop", long, line}, nil, failed(api.ErrTooMany, 1))
	}
	rejectsLine(t, long, api.ErrTooMany)
	rejectsLine(t, strings.Repeat("!", api.MaxText+1), api.ErrTooMany)
	expectParse(t, []string{"", "x =", long}, nil, failed(api.ErrSyntax, 1))
	expectParse(t, []string{"", long, "x ="}, nil, failed(api.ErrTooMany, 1))
	expectParse(t, []string{"", "5", "1a", "5"}, nil, failed(api.ErrSyntax, 1))
	expectParse(t, []string{"a", "", "x =", "5"}, nil, failed(api.ErrSyntax, 2))
}

// TestParseLongLine parses lines of as many bytes as are permitted, and of one more.
func TestParseLongLine(t *testing.T) {
	for _, size := range []int{api.MaxText - 2, api.MaxText - 1, api.MaxText} {
		line, c := longLine(t, size)
		parses(t, line, c)
	}
	line, _ := longLine(t, api.MaxText+1)
	rejectsLine(t, line, api.ErrTooMany)
	parses(t, "a"+strings.Repeat("+", api.MaxText-1), clause(0, "", "a", strings.Repeat("+", api.MaxText-1)))
	parses(t, "a"+strings.Repeat("(", 4000)+strings.Repeat(",", 3999), clause(0, "", "a", strings.Repeat("(", 4000)+strings.Repeat(",", 3999)))
	rejectsLine(t, "a"+strings.Repeat(",", api.MaxText-1), api.ErrSyntax)
}

// TestParseManyLines has as many lines as are permitted, and one more, which is rejected whatever the lines are.
func TestParseManyLines(t *testing.T) {
	lines := slices.Repeat([]string{"nop"}, api.MaxSource+1)
	var want []api.Clause
	for position := range api.MaxSource {
		want = append(want, clause(position, "", "nop"))
	}
	expectParse(t, lines[:api.MaxSource], want, none)
	expectParse(t, lines, nil, failed(api.ErrTooMany, -1))
	expectParse(t, slices.Repeat(lines, 10), nil, failed(api.ErrTooMany, -1))
	expectParse(t, make([]string, api.MaxSource), nil, none)
	expectParse(t, make([]string, api.MaxSource+1), nil, failed(api.ErrTooMany, -1))
	lines[0] = "5"
	expectParse(t, lines, nil, failed(api.ErrTooMany, -1))
	lines[0] = ""
	lines[api.MaxSource-1] = "5"
	expectParse(t, lines[:api.MaxSource], nil, failed(api.ErrSyntax, api.MaxSource-1))
	lines[api.MaxSource-1] = ""
	expectParse(t, lines[:api.MaxSource], want[1:api.MaxSource-1], none)
}
