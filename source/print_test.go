package source_test

import (
	"math"
	"slices"
	"strings"
	"testing"

	"linkhouse/api"
	"linkhouse/source"
)

// TestPrint prints clauses of all sorts.
func TestPrint(t *testing.T) {
	prints(t, clause(0, "a", "add", "r1", "r2"), "a: add r1, r2")
	prints(t, clause(0, "a", ""), "a:")
	prints(t, clause(0, "", "nop"), "nop")
	prints(t, clause(0, "a", "nop"), "a: nop")
	prints(t, clause(0, "nop", "nop"), "nop: nop")
	prints(t, clause(0, "", "push", "r1"), "push r1")
	prints(t, clause(0, "", "set", "r1", "end-start+0x10"), "set r1, end - start + 16")
	prints(t, clause(0, "", "m", "-1", "~a", "1 2 3"), "m - 1, ~ a, 1 2 3")
	prints(t, clause(0, "", "f", "(1,2)", "3"), "f ( 1 , 2 ), 3")
	prints(t, clause(0, "", "f", "),1"), "f ) , 1")
	prints(t, clause(0, "", "f", "1", "(,"), "f 1, ( ,")
	prints(t, clause(0, "", "x", "y=1"), "x y = 1")
	prints(t, clause(0, "", "x", "1", "=1"), "x 1, = 1")
	prints(t, clause(0, "a", "b", ":c"), "a: b : c")
	prints(t, clause(0, "", "b", "1", ":"), "b 1, :")
	prints(t, clause(0, "", "m", "4294967295", "0"), "m 4294967295, 0")
	prints(t, clause(0, "", "m", "<<>>"), "m << >>")
	long := strings.Repeat("a", api.MaxName)
	prints(t, clause(0, long, long, long), long+": "+long+" "+long)
}

// TestPrintAssignments prints clauses whose first argument stands before their Name.
func TestPrintAssignments(t *testing.T) {
	prints(t, clause(0, "", "=", "x", "5"), "x = 5")
	prints(t, clause(0, "a", "=", "x", "5"), "a: x = 5")
	prints(t, clause(0, "", "=", "x", "5", "6+y"), "x = 5, 6 + y")
	prints(t, clause(0, "a", "=", "x", "5", "6", "7"), "a: x = 5, 6, 7")
	prints(t, clause(0, "", "=", "x", "="), "x = =")
	prints(t, clause(0, "", "=", "x", ":", "=5"), "x = :, = 5")
	prints(t, clause(0, "", "=", "x", "(1,2)", "),3"), "x = ( 1 , 2 ), ) , 3")
}

// TestPrintNothing has no clauses, which have no lines.
func TestPrintNothing(t *testing.T) {
	expectPrint(t, nil, nil, none)
	expectPrint(t, []api.Clause{}, nil, none)
}

// TestPrintEmptyLists has nil and empty lists of arguments, and of tokens.
func TestPrintEmptyLists(t *testing.T) {
	prints(t, api.Clause{Name: "nop", Args: nil}, "nop")
	prints(t, api.Clause{Name: "nop", Args: [][]api.Token{}}, "nop")
	for _, empty := range [][]api.Token{nil, {}} {
		rejectsClause(t, api.Clause{Name: "nop", Args: [][]api.Token{empty}}, api.ErrMalformed)
		rejectsClause(t, api.Clause{Label: "a", Args: [][]api.Token{empty}}, api.ErrMalformed)
		rejectsClause(t, api.Clause{Name: "nop", Args: [][]api.Token{empty, argument("a")}}, api.ErrMalformed)
		rejectsClause(t, api.Clause{Name: "nop", Args: [][]api.Token{argument("a"), empty}}, api.ErrMalformed)
		rejectsClause(t, api.Clause{Name: "=", Args: [][]api.Token{argument("a"), empty}}, api.ErrMalformed)
		rejectsClause(t, api.Clause{Name: "=", Args: [][]api.Token{empty, argument("a")}}, api.ErrMalformed)
		rejectsClause(t, api.Clause{Name: "=", Args: [][]api.Token{empty, argument("x"), argument("a")}}, api.ErrMalformed)
	}
}

// TestPrintLines prints clauses with other lines before and between them.
func TestPrintLines(t *testing.T) {
	expectPrint(t, []api.Clause{clause(2, "a", ""), clause(3, "", "nop"), clause(6, "", "=", "x", "1")}, []string{"", "", "a:", "nop", "", "", "x = 1"}, none)
	last := make([]string, api.MaxSource)
	last[api.MaxSource-1] = "nop"
	expectPrint(t, []api.Clause{clause(api.MaxSource-1, "", "nop")}, last, none)
	last[0] = "a: nop"
	expectPrint(t, []api.Clause{clause(0, "a", "nop"), clause(api.MaxSource-1, "", "nop")}, last, none)
}

// TestWrongPositions has positions that do not increase, are negative, or are too large.
func TestWrongPositions(t *testing.T) {
	for _, line := range []int{-1, -2, math.MinInt, api.MaxSource, api.MaxSource + 1, math.MaxInt} {
		expectPrint(t, []api.Clause{clause(line, "", "nop")}, nil, failed(api.ErrRange, 0))
		expectPrint(t, []api.Clause{clause(0, "", "nop"), clause(line, "", "nop")}, nil, failed(api.ErrRange, 1))
		expectPrint(t, []api.Clause{clause(line, "", "nop"), clause(line, "", "nop")}, nil, failed(api.ErrRange, 0))
	}
	for _, lines := range [][]int{{0, 0}, {1, 0}, {5, 5}, {5, 4}, {5, 0}, {299, 299}, {299, 298}, {5, -1}} {
		expectPrint(t, []api.Clause{clause(lines[0], "", "nop"), clause(lines[1], "", "nop")}, nil, failed(api.ErrRange, 1))
		expectPrint(t, []api.Clause{clause(lines[0], "", "nop"), clause(lines[1], "", "nop"), clause(-1, "", "")}, nil, failed(api.ErrRange, 1))
	}
	expectPrint(t, []api.Clause{clause(0, "", "nop"), clause(7, "", "nop"), clause(3, "", "nop")}, nil, failed(api.ErrRange, 2))
}

// TestWrongElements puts each element that is no token with the offset 0 at several places.
func TestWrongElements(t *testing.T) {
	for _, wrong := range wrongElements() {
		one := []api.Token{wrong}
		two := []api.Token{{Kind: api.TokenName, Text: "a"}, wrong}
		for _, name := range []string{"m", "=", "", "!"} {
			rejectsClause(t, api.Clause{Name: name, Args: [][]api.Token{one}}, api.ErrMalformed)
			rejectsClause(t, api.Clause{Name: name, Args: [][]api.Token{argument("x"), one}}, api.ErrMalformed)
			rejectsClause(t, api.Clause{Name: name, Args: [][]api.Token{two, argument("x")}}, api.ErrMalformed)
			rejectsClause(t, api.Clause{Name: name, Args: [][]api.Token{argument("x"), argument("x"), two}}, api.ErrMalformed)
		}
	}
}

// TestReadAsOthers has clauses whose lines have other clauses, or none, because of their label, Name or arguments.
func TestReadAsOthers(t *testing.T) {
	for _, c := range []api.Clause{
		clause(0, "", ""),
		clause(0, "", "", "r1"),
		clause(0, "", "", "a:"),
		clause(0, "a", "", "r1"),
		clause(0, "a", "", "nop", "r1"),
		clause(0, "", "a", ":"),
		clause(0, "", "a", ": nop"),
		clause(0, "", "a", "=5"),
		clause(0, "", "a", "="),
		clause(0, "l", "a", "= 5", "6"),
		clause(0, "", "f", "1, 2"),
		clause(0, "", "f", "(1, 2), 3"),
		clause(0, "", "f", ","),
		clause(0, "", "f", "1,"),
		clause(0, "", "f", ",1"),
		clause(0, "", "f", "(1", "2)"),
		clause(0, "", "f", ")", "1"),
		clause(0, "", "f", "(", ")"),
		clause(0, "", "f", "1", "2)", "3"),
		clause(0, "", "="),
		clause(0, "a", "="),
		clause(0, "", "=", "x"),
		clause(0, "a", "=", "x"),
		clause(0, "", "=", "5", "6"),
		clause(0, "", "=", "x y", "6"),
		clause(0, "", "=", "a: x", "6"),
		clause(0, "", "=", "x =", "6"),
		clause(0, "", "=", "x = 1", "6"),
		clause(0, "", "=", "(x)", "6"),
		clause(0, "", "=", "=", "6"),
		clause(0, "", "=", "x", "1, 2"),
		clause(0, "", "=", "x", "(", "2"),
		clause(0, "", "=", "x", ")", "2"),
	} {
		rejectsClause(t, c, api.ErrMalformed)
	}
}

// TestWrongNames has labels and Names that are none.
func TestWrongNames(t *testing.T) {
	wrong := []string{
		"1", "0x1", "1a", "+", ":", ",", "(", ";", ";a", "a;", "a;b", " ", "a ", " a", "\ta", "a b", "a:", "a: b", "a:b", "a r1", "a, b", "a =", "a = 5", "==", " =", "= ",
		"a\n", "\n", "a\x00", "a!", "\xff", "ä", "a+b", strings.Repeat("a", api.MaxName+1), strings.Repeat("a", 100), strings.Repeat(" ", 100),
	}
	for _, text := range wrong {
		rejectsClause(t, clause(0, "", text), api.ErrMalformed)
		rejectsClause(t, clause(0, text, ""), api.ErrMalformed)
		rejectsClause(t, clause(0, "", text, "r1"), api.ErrMalformed)
		rejectsClause(t, clause(0, "", text, "r1", "r2"), api.ErrMalformed)
		rejectsClause(t, clause(0, text, "nop"), api.ErrMalformed)
		rejectsClause(t, clause(0, text, "=", "x", "5"), api.ErrMalformed)
	}
	rejectsClause(t, clause(0, "=", "nop"), api.ErrMalformed)
	rejectsClause(t, clause(0, "=", ""), api.ErrMalformed)
}

// TestPrintLongLine prints lines of as many bytes as are permitted, and of one more, to which each part of a clause adds.
func TestPrintLongLine(t *testing.T) {
	for _, size := range []int{api.MaxText - 2, api.MaxText - 1, api.MaxText} {
		line, c := longLine(t, size)
		prints(t, c, line)
	}
	for _, size := range []int{api.MaxText + 1, api.MaxText + 2, api.MaxText + 100} {
		_, c := longLine(t, size)
		rejectsClause(t, c, api.ErrTooLarge)
	}
	line, c := longLine(t, api.MaxText-4)
	c.Label = "ab"
	prints(t, c, "ab: "+line)
	c.Label = "abc"
	rejectsClause(t, c, api.ErrTooLarge)
	line, c = longLine(t, api.MaxText)
	c.Args = slices.Insert(c.Args, 0, argument("b"))
	c.Name = "="
	rejectsClause(t, c, api.ErrTooLarge)
	line, c = longLine(t, api.MaxText-2)
	c.Args = slices.Insert(c.Args, 0, argument("a"))
	c.Name = "="
	prints(t, c, "a ="+line[1:])
	c.Args[0] = argument("ab")
	rejectsClause(t, c, api.ErrTooLarge)
	c.Args[0] = argument("a")
	c.Label = "a"
	rejectsClause(t, c, api.ErrTooLarge)
}

// TestPrintLongParts has labels, Names and arguments that are too long by themselves, or just long enough.
func TestPrintLongParts(t *testing.T) {
	plus := slices.Repeat(argument("+"), api.MaxText/2+1)
	prints(t, api.Clause{Name: "ab", Args: [][]api.Token{plus[:3999]}}, "ab"+strings.Repeat(" +", 3999))
	rejectsClause(t, api.Clause{Name: "ab", Args: [][]api.Token{plus[:4000]}}, api.ErrTooLarge)
	rejectsClause(t, api.Clause{Name: "ab", Args: [][]api.Token{plus}}, api.ErrTooLarge)
	rejectsClause(t, api.Clause{Name: "=", Args: [][]api.Token{plus}}, api.ErrTooLarge)
	rejectsClause(t, api.Clause{Args: [][]api.Token{plus}}, api.ErrTooLarge)
	rejectsClause(t, api.Clause{Name: "ab", Args: [][]api.Token{nil, argument("a"), plus, nil}}, api.ErrTooLarge)
	names := slices.Repeat(argument(strings.Repeat("a", api.MaxName)), 500)
	rejectsClause(t, api.Clause{Name: "ab", Args: [][]api.Token{names}}, api.ErrTooLarge)
	rejectsClause(t, api.Clause{Name: "ab", Args: [][]api.Token{argument("a"), names}}, api.ErrTooLarge)
	rejectsClause(t, clause(0, "", strings.Repeat("a", api.MaxText)), api.ErrMalformed)
	rejectsClause(t, clause(0, "", strings.Repeat("a", api.MaxText+1)), api.ErrTooLarge)
	rejectsClause(t, clause(0, strings.Repeat("a", api.MaxText-1), ""), api.ErrMalformed)
	rejectsClause(t, clause(0, strings.Repeat("a", api.MaxText), ""), api.ErrTooLarge)
	rejectsClause(t, clause(0, strings.Repeat(" ", api.MaxText), ""), api.ErrTooLarge)
	rejectsClause(t, clause(0, strings.Repeat("a", api.MaxText-3), "b"), api.ErrMalformed)
	rejectsClause(t, clause(0, strings.Repeat("a", api.MaxText-2), "b"), api.ErrTooLarge)
	rejectsClause(t, clause(0, "", "!", strings.Repeat("+", 4000)), api.ErrTooLarge)
	rejectsClause(t, api.Clause{Name: "a", Args: make([][]api.Token, api.MaxText)}, api.ErrTooLarge)
	rejectsClause(t, api.Clause{Name: "a", Args: make([][]api.Token, api.MaxText/2+1)}, api.ErrTooLarge)
	rejectsClause(t, api.Clause{Name: "a", Args: make([][]api.Token, api.MaxText/2)}, api.ErrMalformed)
}

// TestPrintOrder has clauses with several errors, of which the first one counts.
func TestPrintOrder(t *testing.T) {
	wrong := argument("b")
	wrong[0].At = 1
	_, long := longLine(t, api.MaxText+1)
	both := long
	both.Args = append(slices.Clone(long.Args), wrong)
	out := both
	out.Line = -1
	rejectsClause(t, both, api.ErrMalformed)
	expectPrint(t, []api.Clause{out}, nil, failed(api.ErrRange, 0))
	expectPrint(t, []api.Clause{clause(api.MaxSource, "", "")}, nil, failed(api.ErrRange, 0))
	long.Name = "!"
	rejectsClause(t, long, api.ErrTooLarge)
	// An earlier clause counts before a later one, whatever their errors are.
	expectPrint(t, []api.Clause{clause(0, "", ""), out}, nil, failed(api.ErrMalformed, 0))
	expectPrint(t, []api.Clause{long, out}, nil, failed(api.ErrTooLarge, 0))
	expectPrint(t, []api.Clause{both, clause(0, "", "")}, nil, failed(api.ErrMalformed, 0))
	expectPrint(t, []api.Clause{out, both}, nil, failed(api.ErrRange, 0))
}

// TestPrintManyClauses has as many clauses as are permitted, and one more, which is rejected whatever the clauses are.
func TestPrintManyClauses(t *testing.T) {
	var l []api.Clause
	for position := range api.MaxSource + 1 {
		l = append(l, clause(position, "", "nop"))
	}
	expectPrint(t, l[:api.MaxSource], slices.Repeat([]string{"nop"}, api.MaxSource), none)
	expectPrint(t, l, nil, failed(api.ErrTooMany, -1))
	expectPrint(t, make([]api.Clause, api.MaxSource+1), nil, failed(api.ErrTooMany, -1))
	expectPrint(t, make([]api.Clause, 10*api.MaxSource), nil, failed(api.ErrTooMany, -1))
	expectPrint(t, make([]api.Clause, api.MaxSource), nil, failed(api.ErrMalformed, 0))
	expectPrint(t, l[1:], nil, failed(api.ErrRange, api.MaxSource-1))
	l[0].Line = -1
	expectPrint(t, l, nil, failed(api.ErrTooMany, -1))
	expectPrint(t, l[:api.MaxSource], nil, failed(api.ErrRange, 0))
}

// TestPrintParsed prints the clauses of lines, and parses them again.
func TestPrintParsed(t *testing.T) {
	lines := []string{"", "a:add r1,r2", "x=0x10", "; note", "b:", "f (1,2),3 ; note", "", "l: y = x<<2, ~1"}
	l, _ := source.Parse(lines)
	printed := []string{"", "a: add r1, r2", "x = 16", "", "b:", "f ( 1 , 2 ), 3", "", "l: y = x << 2, ~ 1"}
	expectPrint(t, l, printed, none)
	expectParse(t, printed, l, none)
}
