package macro_test

import (
	"slices"
	"strconv"
	"strings"
	"testing"

	"linkhouse/api"
)

// TestPositions has lines from blocks and calls, whose positions are those of the lines in the source text, and of the outermost calls.
func TestPositions(t *testing.T) {
	yields(t, "a|.macro m|x|.if 1|y|.endif|.endm|b|m|.rept 2|m|c|.endr", "0 a|7 b|8 x|8 y|10 x|10 y|11 c|10 x|10 y|11 c")
	yields(t, ".macro m|x|.endm|.macro k|m|y|.endm|k|.if 1|k|.endif|m", "7 x|7 y|9 x|9 y|11 x")
	yields(t, ".macro d|.macro m|x|.endm|m|.endm|d|m", "6 x|7 x")
}

// TestPositionsOfFaults has errors in calls, in repetitions and in both, whose positions are those of lines of the source text.
func TestPositionsOfFaults(t *testing.T) {
	wrong := map[string]int{".else": api.ErrSyntax, ".macro 1|.endm": api.ErrName, ".if 1|.endm": api.ErrSyntax, ".if x|.endif": api.ErrRange, ".rept +|.endr": api.ErrSyntax, ".rept 301|.endr": api.ErrRange, "w x": api.ErrLength, ".macro .w|.endm": api.ErrName, ".macro w|.endm": api.ErrExists, ".macro v a a|.endm": api.ErrExists}
	for text, code := range wrong {
		w := ".macro w|" + text + "|.endm|"
		behind := 2 + len(divide(text))
		rejects(t, w+"a|w|b", code, behind+1)
		rejects(t, w+".macro v|a|w|b|.endm|a|v|b", code, behind+6)
		rejects(t, w+"a|.rept 2|b|w|.endr", code, behind+3)
		rejects(t, w+".macro v|.rept 1|w|.endr|.endm|.if 1|v|.endif", code, behind+6)
	}
	for _, text := range []string{".endr", ".endif", ".endm", ".else", ".if 1", ".rept 1", ".macro v", ".macro w", ".if ?"} {
		w := ".macro w a|\\a|.endm|"
		rejects(t, w+"a|w "+text+"|b", api.ErrSyntax, 4)
		rejects(t, w+"a|w b|.if 1|.rept 2|b|w "+text+"|.endr|.endif", api.ErrSyntax, 8)
		rejects(t, w+".macro k|b|w "+text+"|.endm|a|.rept 2|k|.endr", api.ErrSyntax, 9)
	}
	// In a repetition that is not in a call, the position is that of the line.
	rejects(t, ".rept 2|a|.macro m|.endm|.endr", api.ErrExists, 2)
	rejects(t, ".rept 2|a|.if 1 / 0|.endif|.endr", api.ErrRange, 2)
	rejects(t, ".rept 2|a|.if 1|b|.endr|.endr", api.ErrSyntax, 4)
	rejects(t, "a|.macro m a|.if \\a|b|.endr|.endm|.rept 2|c|m 1|.endr", api.ErrSyntax, 8)
}

// TestBlocksInBodies has blocks that begin in the body of a macro and end in the lines behind the call, and the opposite, which is not permitted.
func TestBlocksInBodies(t *testing.T) {
	m := ".macro open a|.\\a|.endm|.macro close a|.end\\a|.endm|"
	for _, word := range []string{"if 1", "rept 1", "macro x"} {
		end, _, _ := strings.Cut(word, " ")
		rejects(t, m+"open "+word+"|a|close "+strings.TrimSuffix(end, "acro"), api.ErrSyntax, 6)
		rejects(t, m+"open "+word+"|a|.end"+strings.TrimSuffix(end, "acro"), api.ErrSyntax, 6)
		rejects(t, m+"."+word+"|a|close "+strings.TrimSuffix(end, "acro"), api.ErrSyntax, 6)
	}
	rejects(t, m+"a|close if", api.ErrSyntax, 7)
	rejects(t, m+"a|.if 1|close if|.endif", api.ErrSyntax, 8)
	yields(t, m+"a|.if 0|close if|.else|b|.endif", "6 a|10 b")
}

// TestNumbersOfCalls has calls within calls and within repetitions, which are numbered in the order in which they are processed.
func TestNumbersOfCalls(t *testing.T) {
	yields(t, ".macro m|x\\@:|.endm|m|m|m", "3 x1:|4 x2:|5 x3:")
	yields(t, ".macro m|x\\@|.endm|.rept 2|m|m|.endr|m", "4 x1|5 x2|4 x3|5 x4|7 x5")
	yields(t, ".macro m|x\\@|.endm|.macro k|a\\@|m|b\\@|m|c\\@|.endm|k|m|k", "10 a1|10 x2|10 b1|10 x3|10 c1|11 x4|12 a5|12 x6|12 b5|12 x7|12 c5")
	yields(t, ".macro m a|\\@ \\a|.endm|.macro k a|m <\\@\\a>|.endm|k 7|m \\@|k 8", "6 2 <17>|7 3 \\@|8 5 <48>")
	// A call that is not processed has no number, and a line that is no call neither.
	yields(t, ".macro m|x\\@|.endm|.if 0|m|.endif|mm|.rept 0|m|.endr|m", "6 mm|10 x1")
	yields(t, ".macro m|.macro k\\@|\\@|.endm|.endm|m|m|k1|k2", "7 1|8 2")
	yields(t, ".macro m|x\\@|.endm|"+strings.Repeat("m|", 12)+"a", "3 x1|4 x2|5 x3|6 x4|7 x5|8 x6|9 x7|10 x8|11 x9|12 x10|13 x11|14 x12|15 a")
}

// chain returns macros of which each calls the next one, as many as a number says, and the last of which has a body.
func chain(length int, body ...string) []string {
	var l []string
	for k := range length - 1 {
		l = append(l, ".macro m"+strconv.Itoa(k), "m"+strconv.Itoa(k+1), ".endm")
	}
	return source(l, []string{".macro m" + strconv.Itoa(length-1)}, body, []string{".endm"})
}

// TestDepth has calls within calls, as deep as is permitted, and one deeper.
func TestDepth(t *testing.T) {
	for length := 1; length < api.MaxDepth+4; length++ {
		macros := chain(length, "a")
		for first := range length {
			lines := source(macros, []string{"m" + strconv.Itoa(first)})
			if length-first <= api.MaxDepth {
				expect(t, lines, []api.Line{{Text: "a", From: len(macros)}}, none)
			} else {
				expect(t, lines, nil, failed(api.ErrCycle, len(macros)))
			}
		}
	}
	deepest := chain(api.MaxDepth, ".rept 2", ".if 1", "a", ".endif", ".endr")
	at := len(deepest)
	expect(t, source(deepest, []string{"m0", "m0"}), []api.Line{{Text: "a", From: at}, {Text: "a", From: at}, {Text: "a", From: at + 1}, {Text: "a", From: at + 1}}, none)
	// A call that is deeper than permitted is an error only when it is processed.
	recursive := ".macro m a|x\\a|.if \\a|m \\a-1|.endif|.endm|m "
	yields(t, recursive+"2", "6 x2|6 x2-1|6 x2-1-1")
	rejects(t, recursive+"8", api.ErrCycle, 6)
	yields(t, recursive+"7", "6 x7|6 x7-1|6 x7-1-1|6 x7-1-1-1|6 x7-1-1-1-1|6 x7-1-1-1-1-1|6 x7-1-1-1-1-1-1|6 x7-1-1-1-1-1-1-1")
	rejects(t, ".macro m|m|.endm|a|m", api.ErrCycle, 4)
	rejects(t, ".macro m|k|.endm|.macro k|m|.endm|a|.rept 1|m|.endr", api.ErrCycle, 8)
	// Blocks have no depth.
	yields(t, strings.Repeat(".if 1|.rept 1|", 20)+"a"+strings.Repeat("|.endr|.endif", 20), "40 a")
}

// TestOrderInCalls has calls that are wrong in several ways.
func TestOrderInCalls(t *testing.T) {
	long := strings.Repeat("x", 500)
	wide := strings.Repeat("\\a", 17)
	deep := chain(api.MaxDepth, "w 1, 2")
	at := 3 + len(deep)
	expect(t, source([]string{".macro w a", "", ".endm"}, deep, []string{"m0"}), nil, failed(api.ErrLength, at))
	deep[len(deep)-2] = "w " + long
	expect(t, source([]string{".macro w a", "", ".endm"}, deep, []string{"m0"}), nil, failed(api.ErrCycle, at))
	expect(t, source([]string{".macro w a", wide, ".endm"}, deep, []string{"m0"}), nil, failed(api.ErrCycle, at))
	expect(t, source([]string{".macro w a", wide, ".endm"}, deep, []string{"m1"}), nil, failed(api.ErrTooLarge, at))
	// All lines of a call are made before the first one is processed.
	expect(t, []string{".macro w a", ".else", wide, ".endm", "w " + long}, nil, failed(api.ErrTooLarge, 4))
	expect(t, []string{".macro w a", ".else", wide, ".endm", "w " + long[30:]}, nil, failed(api.ErrSyntax, 4))
}

// TestOrder has lines that are wrong in several ways, and several wrong lines.
func TestOrder(t *testing.T) {
	rejects(t, ".macro", api.ErrSyntax, 0)
	rejects(t, ".if ?", api.ErrSyntax, 0)
	rejects(t, ".rept x", api.ErrSyntax, 0)
	rejects(t, ".macro 1|.endif", api.ErrSyntax, 1)
	rejects(t, ".macro m m m|.endif", api.ErrSyntax, 1)
	rejects(t, ".rept x|.endif", api.ErrSyntax, 1)
	rejects(t, ".rept 301|.if|.endif|.endm", api.ErrSyntax, 3)
	rejects(t, ".rept -1 - x|.endr", api.ErrRange, 0)
	rejects(t, ".if x|.endif|.endif", api.ErrRange, 0)
	rejects(t, ".if 1|.if x|.endif|.endif|.endif", api.ErrRange, 1)
	rejects(t, ".if 1|.if x|.endif|.endr|.endif", api.ErrSyntax, 3)
	rejects(t, ".if 1|.if x|.endr|.endif|.endif", api.ErrSyntax, 2)
	rejects(t, ".if 1|.rept x|.endr|.else|.endr|.endif", api.ErrSyntax, 4)
	rejects(t, "a|.rept 0|.if x|.endif|.endr|.else|.if", api.ErrSyntax, 5)
	rejects(t, ".rept 301|.endr|.endr", api.ErrRange, 0)
	rejects(t, ".macro m|.else|.endm|.rept 2|m|.endm", api.ErrSyntax, 5)
	rejects(t, ".macro m|.else|.endm|.rept 2|m|.endr", api.ErrSyntax, 4)
}

// TestNotProcessed has lines that would be errors if they were processed.
func TestNotProcessed(t *testing.T) {
	wrong := "|.rept -1|.endr|.if x|.else|.else|.endm|.macro 1|.endm|.rept ?|.endr|m 1, 2|.if 1|.rept 1|.endif|.endif|"
	rejects(t, ".if 1"+wrong+".endif", api.ErrRange, 1)
	yields(t, ".macro m|.endm|.if 0"+wrong+".endif|a", strconv.Itoa(2+len(divide(wrong)))+" a")
	yields(t, ".macro m|.endm|.rept 0"+wrong+".endr|a", strconv.Itoa(2+len(divide(wrong)))+" a")
	yields(t, ".macro k"+wrong+".endm|a", strconv.Itoa(len(divide(wrong)))+" a")
	yields(t, ".if 2|.else"+wrong+".endif|a", strconv.Itoa(1+len(divide(wrong)))+" a")
}

// TestManyLines has as many lines of a source text as are permitted, and one more, whatever the lines are.
func TestManyLines(t *testing.T) {
	many := repeated(api.MaxSource+1, "")
	var want []api.Line
	for k := range api.MaxSource {
		want = append(want, api.Line{From: k})
	}
	expect(t, many[1:], want, none)
	expect(t, many, nil, failed(api.ErrTooMany, -1))
	expect(t, repeated(10, many...), nil, failed(api.ErrTooMany, -1))
	expect(t, repeated(api.MaxSource+1, ".endif"), nil, failed(api.ErrTooMany, -1))
	expect(t, source([]string{".if 0"}, many, []string{".endif"}), nil, failed(api.ErrTooMany, -1))
	expect(t, source([]string{strings.Repeat("x", api.MaxText+1)}, many), nil, failed(api.ErrTooMany, -1))
	expect(t, source([]string{strings.Repeat("x", api.MaxText+1)}, many[2:]), nil, failed(api.ErrTooLarge, -1))
}

// TestManyBytes has as many bytes of a source text as are permitted, and one more, whatever they are.
func TestManyBytes(t *testing.T) {
	for _, sizes := range [][]int{{api.MaxText}, {0, api.MaxText}, {api.MaxText, 0}, {api.MaxText / 2, api.MaxText / 2}, {1, api.MaxText - 3, 2}} {
		var lines []string
		var want []api.Line
		for k, size := range sizes {
			lines = append(lines, strings.Repeat(";", size))
			want = append(want, api.Line{Text: lines[k], From: k})
		}
		expect(t, lines, want, none)
		for k := range lines {
			longer := slices.Clone(lines)
			longer[k] += "x"
			expect(t, longer, nil, failed(api.ErrTooLarge, -1))
			expect(t, source([]string{".endif"}, longer), nil, failed(api.ErrTooLarge, -1))
		}
		expect(t, source(lines, []string{"\xff"}), nil, failed(api.ErrTooLarge, -1))
	}
	expect(t, repeated(80, strings.Repeat("ä", 50)), made(t, manyWide()), none)
	expect(t, source(repeated(80, strings.Repeat("ä", 50)), []string{"a"}), nil, failed(api.ErrTooLarge, -1))
}

// manyWide is the result of 80 lines of 50 letters of two bytes.
func manyWide() string {
	var l []string
	for k := range 80 {
		l = append(l, strconv.Itoa(k)+" "+strings.Repeat("ä", 50))
	}
	return strings.Join(l, "|")
}

// TestLongLines has lines from calls of as many bytes as are permitted, and of one more.
func TestLongLines(t *testing.T) {
	body := strings.Repeat("\\a", 8)
	long := strings.Repeat("x", api.MaxText/8)
	line := strings.Repeat(long, 8)
	expect(t, []string{".macro m a", body, ".endm", "m " + long}, []api.Line{{Text: line, From: 3}}, none)
	expect(t, []string{".macro m a", body, body, ".endm", "m " + long, "m " + long}, []api.Line{{Text: line, From: 4}, {Text: line, From: 4}, {Text: line, From: 5}, {Text: line, From: 5}}, none)
	for _, longer := range []string{body + "y", "y" + body, body + ";", body + " ", body + "\\", body + "\\@", ";" + body} {
		expect(t, []string{".macro m a", longer, ".endm", "m " + long}, nil, failed(api.ErrTooLarge, 3))
		expect(t, []string{".macro m a", "y", body, longer, ".endm", "y", "m " + long}, nil, failed(api.ErrTooLarge, 6))
		expect(t, []string{".macro m a", ".if 0", longer, ".endif", ".endm", "y", ".rept 1", "m " + long, ".endr"}, nil, failed(api.ErrTooLarge, 7))
		expect(t, []string{".macro m a", longer, ".endm", ".macro k a", "m \\a", ".endm", "k " + long}, nil, failed(api.ErrTooLarge, 6))
		expect(t, []string{".macro m a", longer, ".endm", "m " + long[1:]}, []api.Line{{Text: strings.NewReplacer("\\a", long[1:], "\\@", "1").Replace(longer), From: 3}}, none)
	}
	// The number of a call counts as well.
	number := "\\@" + body[:14] + strings.Repeat("y", api.MaxText/8-1)
	lines := source([]string{".macro m a", number, ".endm", "m " + long}, repeated(8, "m z"), []string{"m " + long})
	want := made(t, "")
	for k, argument := range source([]string{long}, repeated(8, "z"), []string{long}) {
		text := strconv.Itoa(k+1) + strings.Repeat(argument, 7) + number[16:]
		want = append(want, api.Line{Text: text, From: 3 + k})
	}
	expect(t, lines[:len(lines)-1], want[:9], none)
	expect(t, lines, nil, failed(api.ErrTooLarge, 12))
	// A line that a call makes too long by far.
	expect(t, []string{".macro m a", strings.Repeat("\\a", 1900), ".endm", "m " + strings.Repeat("x", 4000)}, nil, failed(api.ErrTooLarge, 3))
}

// TestLongResults has results of as many lines as are permitted, and of one more.
func TestLongResults(t *testing.T) {
	most := ".rept 100|a|b|c|.endr"
	want := strings.Repeat("|1 a|2 b|3 c", 100)[1:]
	yields(t, most, want)
	yields(t, most+"|.if 1|.endif|.rept 0|a|.endr|.macro m|x|.endm", want)
	rejects(t, most+"|d", api.ErrTooMany, 5)
	rejects(t, most+"|", api.ErrTooMany, 5)
	rejects(t, most+"|.if 1| ; d|.endif", api.ErrTooMany, 6)
	rejects(t, most+"|.macro m|.if 1|d|.endif|.endm|.if 1|m|.endif", api.ErrTooMany, 11)
	rejects(t, ".rept 101|a|b|c|.endr", api.ErrTooMany, 1)
	rejects(t, "x|.rept 100|a|b|c|.endr", api.ErrTooMany, 4)
	rejects(t, "x|x|.rept 100|a|b|c|.endr|.endif", api.ErrTooMany, 4)
	rejects(t, most+"|.endif", api.ErrSyntax, 5)
	rejects(t, most+"|.else|d", api.ErrSyntax, 5)
	rejects(t, ".rept 300|.rept 300|.rept 300|.rept 300|a|.endr|.endr|.endr|.endr", api.ErrTooMany, 4)
}

// TestWork has as many processed lines as are permitted, and one more, whatever that line is.
func TestWork(t *testing.T) {
	for _, number := range []int{api.MaxWork, api.MaxWork - 1, api.MaxWork - 7, 1, 2, 3, 300, 301, 302, 600, 601, 602, 700} {
		expect(t, working(number), nil, none)
	}
	expect(t, working(api.MaxWork+2), nil, failed(api.ErrTooMany, len(working(api.MaxWork+2))-3))
	most := working(api.MaxWork)
	at := len(most)
	for _, text := range []string{"a", "", ";", ".endif", ".else", ".if", ".if 1|.endif", ".rept 0|.endr", ".rept x|.endif", ".macro m|.endm", ".macro", ".macro 1|.endm", "a|.if"} {
		expect(t, source(most, divide(text)), nil, failed(api.ErrTooMany, at))
		expect(t, source([]string{".macro m", "", ".endm"}, working(api.MaxWork-1), divide(text)), nil, failed(api.ErrTooMany, 3+len(working(api.MaxWork-1))))
	}
	// Lines that open blocks, calls and lines of the result are processed; lines of a body that is not called, the last lines of blocks, and the lines that are not chosen are not.
	for text, number := range map[string]int{
		"a": 1, "": 1, ";": 1, ".if 1|.endif": 1, ".if 0|a|b|.endif": 1, ".if 0|a|b|.else|c|.endif": 2, ".if 1|a|b|.else|c|.endif": 3, ".if 1|.if 0|a|.endif|.endif": 2,
		".rept 0|a|.endr": 1, ".rept 3|.endr": 1, ".rept 3|a|b|.endr": 7, ".macro m|a|b|.endm": 1, ".macro m|a|b|.endm|m": 4, ".macro m|.endm|m|m": 3, ".macro m|.rept 2|a|.endr|.endm|m": 5,
	} {
		lines := divide(text)
		l, fault := expandQuietly(source(working(api.MaxWork-number), lines))
		if fault != none {
			t.Errorf("%q: got %v and %v", text, l, fault)
		}
		if _, fault = expandQuietly(source(working(api.MaxWork-number+1), lines)); fault.Code != api.ErrTooMany {
			t.Errorf("%q: got %v", text, fault)
		}
	}
	// A line that is one too many within a repetition and within a call has their positions.
	expect(t, source(working(api.MaxWork-3), divide(".rept 2|x|y|.endr")), nil, failed(api.ErrTooMany, len(working(api.MaxWork-3))+1))
	expect(t, source(divide(".macro m|x|x|.endm"), working(api.MaxWork-3), divide(".rept 2|m|.endr")), nil, failed(api.ErrTooMany, 5+len(working(api.MaxWork-3))))
}
