package macro_test

import (
	"strings"
	"testing"

	"linkhouse/api"
)

// TestPlainLines keeps lines that are no calls and no parts of blocks as they are.
func TestPlainLines(t *testing.T) {
	expect(t, nil, nil, none)
	expect(t, []string{}, nil, none)
	for _, text := range []string{"", " ", "\t", ";", "; .if", ";.endif", "a", "\tadd r1, r2 ; .endm", "a: nop", "a: .if 0", "a .else", "\\a", "\\@", "\\", "\xff", "\x00", ".if1", ".iff", ".elseif", ".endifs", ".macros", ".rept0", ".repts", ".endrs", ".endms", "if", "else", "endif", "rept", "endr", ".IF", ".Else", ".ENDIF", ".", "..if", "a;b;c", ",", ".if(1)", ".rept(2)", ".else,", ".endif:", "\".if\"", ".if\n1", ".endr\r", "\v.endif", "\u00a0.else", ".if\u00a01", ".\xffif"} {
		expect(t, []string{text}, []api.Line{{Text: text}}, none)
		expect(t, []string{text, "b", text}, []api.Line{{Text: text}, {Text: "b", From: 1}, {Text: text, From: 2}}, none)
	}
}

// TestBlanks has spaces and tabs around words, and none before a semicolon.
func TestBlanks(t *testing.T) {
	yields(t, " .if 1|a|.endif", "1 a")
	yields(t, "\t \t.if\t\t1 \t| a|  .endif\t", "1  a")
	yields(t, "\t.rept \t 2\t|\ta|\t\t.endr ", "1 \ta|1 \ta")
	yields(t, ".rept\t2|a|.endr", "1 a|1 a")
	yields(t, "\t.macro\tm \t a\tb\t|\\b \\a|\t.endm\t| m\tx,y|\t\tm x,\ty", "3 y x|4 y x")
	yields(t, ".if 0;|a|.else;|b|.endif;", "3 b")
	yields(t, ".if 1;.else|a|.endif;.endif", "1 a")
}

// TestComments has words behind a semicolon, which count for nothing.
func TestComments(t *testing.T) {
	yields(t, ".if 1 ; + 1 )|a ; .endif|.else ; .else|b|.endif ; x", "1 a ; .endif")
	yields(t, ".rept 2; 3|a|; .endr|.endr", "1 a|2 ; .endr|1 a|2 ; .endr")
	yields(t, ".macro m a ; a 1 ,|\\a|.endm ; m|m x ; y, z|m x;y", "3 x|4 x")
	yields(t, ".macro m ; a|a|.endm|m;|m ;|m\t; x, y", "3 a|4 a|5 a")
	yields(t, ".macro m|a|.endm|;m|; m| ;m", "3 ;m|4 ; m|5  ;m")
	rejects(t, ".if ; 1|.endif", api.ErrSyntax, 0)
	rejects(t, ".rept;1|.endr", api.ErrSyntax, 0)
	rejects(t, ".macro ; m|.endm", api.ErrName, 0)
	rejects(t, ".macro;m|.endm", api.ErrName, 0)
	rejects(t, ".if 1|;.endif", api.ErrSyntax, 0)
	rejects(t, "a|.endif;", api.ErrSyntax, 1)
}

// TestWordsBehind has words behind those that close and divide blocks, which count for nothing.
func TestWordsBehind(t *testing.T) {
	yields(t, ".if 0 |a|.else if 0, +|b|.endif .if", "3 b")
	yields(t, ".rept 1|a|.endr .endr 5|b", "1 a|3 b")
	yields(t, ".macro m|a|.endm m|b", "3 b")
}

// TestNothingOpened has words that close or divide a block where there is none.
func TestNothingOpened(t *testing.T) {
	for _, word := range []string{".endm", ".endif", ".endr", ".else"} {
		for _, text := range []string{word, " " + word, word + ";", word + " x", "\t" + word + "\t1 ; 2"} {
			rejects(t, text, api.ErrSyntax, 0)
			rejects(t, "a|b|"+text, api.ErrSyntax, 2)
			rejects(t, ".if 1|a|.endif|"+text, api.ErrSyntax, 3)
			rejects(t, text+"|.if 1|a|.endif", api.ErrSyntax, 0)
			rejects(t, text+"|.if 1", api.ErrSyntax, 0)
		}
	}
}

// TestNotEnded has blocks that do not end, or in which one does not.
func TestNotEnded(t *testing.T) {
	for _, opening := range []string{".if 1", ".if 0", ".rept 0", ".rept 1", ".macro m", ".if", ".rept x", ".macro", ".macro .m", ".rept -1"} {
		rejects(t, opening, api.ErrSyntax, 0)
		rejects(t, opening+"|a", api.ErrSyntax, 0)
		rejects(t, "a|b|"+opening+"|a|.else", api.ErrSyntax, 2)
		rejects(t, opening+"|.if 1|.endif", api.ErrSyntax, 0)
		rejects(t, opening+"|.rept 1|.macro m|.endr|.endif", api.ErrSyntax, 0)
		rejects(t, "a|.if 0|"+opening+"|.endif", api.ErrSyntax, 1)
		rejects(t, "a|.endr|"+opening, api.ErrSyntax, 1)
	}
	rejects(t, strings.Repeat(".if 1|", 299)+".endif", api.ErrSyntax, 0)
}

// TestEndsWithAnotherWord has blocks that end with another word than required, whatever stands behind the opening word.
func TestEndsWithAnotherWord(t *testing.T) {
	ends := map[string]string{".if": ".endif", ".rept": ".endr", ".macro": ".endm"}
	for word, right := range ends {
		for _, end := range ends {
			if end == right {
				continue
			}
			for _, rest := range []string{"", " 1", " 0", " m", " .m", " -1", " +"} {
				rejects(t, word+rest+"|"+end, api.ErrSyntax, 1)
				rejects(t, "a|"+word+rest+"|a|.else|"+end+"|"+right, api.ErrSyntax, 4)
				rejects(t, word+rest+"|.if 1|.endif|"+end, api.ErrSyntax, 3)
			}
		}
	}
}

// TestWithinBlocks has blocks within blocks, which are found by counting, and examined only when they are processed.
func TestWithinBlocks(t *testing.T) {
	yields(t, ".if 1|.if 1|a|.endif|b|.endif|c", "2 a|4 b|6 c")
	yields(t, ".rept 2|.rept 2|a|.endr|b|.endr", "2 a|2 a|4 b|2 a|2 a|4 b")
	yields(t, ".if 1|.rept 1|.if 1|a|.endif|.endr|.endif", "3 a")
	yields(t, ".rept 2|.if 0|a|.else|.rept 2|b|.endr|.endif|.endr", "5 b|5 b|5 b|5 b")
	yields(t, ".macro m|.macro n|a|.endm|n|.endm|m|n", "6 a|7 a")
	yields(t, ".macro m|.if 1|.rept 2|a|.endr|.endif|.endm|m", "7 a|7 a")
	yields(t, ".if 0|.rept x|.macro .m|.if|.endif|.endm|.endr|.endif|a", "8 a")
	// The inner block ends with another word than required, but is not processed.
	yields(t, ".if 0|.rept 1|.endif|.endif|a", "4 a")
	yields(t, ".rept 0|.macro m|.endr|.endr|a", "4 a")
	yields(t, ".macro m|.if 1|.endr|.endm|a", "4 a")
	yields(t, ".if 1|a|.else|.if 1|.endm|.endif|b", "1 a|6 b")
	rejects(t, ".if 1|.rept 1|.endif|.endif|a", api.ErrSyntax, 2)
	rejects(t, ".rept 1|.macro m|.endr|.endr|a", api.ErrSyntax, 2)
	rejects(t, ".macro m|.if 1|.endr|.endm|a|m", api.ErrSyntax, 5)
	rejects(t, ".if 0|a|.else|b|.if 1|.endm|.endif|b", api.ErrSyntax, 5)
	rejects(t, ".if 1|a|.endr|.endif", api.ErrSyntax, 2)
	rejects(t, ".if 1|.endif|.endif", api.ErrSyntax, 2)
	rejects(t, ".if 1|.if 1|.endif|.endif|.endif", api.ErrSyntax, 4)
}

// TestManyBlocks has as many blocks within blocks as a source text has lines for.
func TestManyBlocks(t *testing.T) {
	opened := repeated(api.MaxSource/2, ".if 1")
	closed := repeated(api.MaxSource/2, ".endif")
	expect(t, source(opened, closed), nil, none)
	expect(t, source(opened[1:], []string{"a"}, closed[1:]), []api.Line{{Text: "a", From: len(opened) - 1}}, none)
	opened, closed = repeated(api.MaxSource/2, ".rept 1"), repeated(api.MaxSource/2, ".endr")
	expect(t, source(opened, closed), nil, none)
	expect(t, source(opened[1:], []string{"a"}, closed[1:]), []api.Line{{Text: "a", From: len(opened) - 1}}, none)
	closed[0] = ".endif"
	expect(t, source(opened, closed), nil, failed(api.ErrSyntax, len(opened)))
}

// TestDivisions has dividing lines of inner blocks, of none, and more than one.
func TestDivisions(t *testing.T) {
	yields(t, ".if 1|a|.else|b|.endif", "1 a")
	yields(t, ".if 0|a|.else|b|.endif", "3 b")
	yields(t, ".if 1|.else|.endif", "")
	yields(t, ".if 0|.else|.endif", "")
	yields(t, ".if 1|.else|b|.endif", "")
	yields(t, ".if 0|a|.else|.endif", "")
	yields(t, ".if 1|a|.endif", "1 a")
	yields(t, ".if 0|a|.endif", "")
	yields(t, ".if 0|.endif", "")
	for outer := range 2 {
		for inner := range 2 {
			first, second := []string{".if 0", ".if 1"}[outer], []string{".if 0", ".if 1"}[inner]
			yields(t, first+"|"+second+"|a|.else|b|.endif|.endif", []string{"", "", "4 b", "2 a"}[2*outer+inner])
			yields(t, first+"|"+second+"|a|.else|b|.endif|.else|c|.endif", []string{"7 c", "7 c", "4 b", "2 a"}[2*outer+inner])
			yields(t, first+"|c|.else|"+second+"|a|.else|b|.endif|.endif", []string{"6 b", "4 a", "1 c", "1 c"}[2*outer+inner])
		}
	}
	yields(t, ".if 0|.if 0|.else|.if 1|.endif|.endif|.rept 1|.endr|.else|a|.endif", "9 a")
	// The first line divides the block, and the second one belongs to the part behind it.
	yields(t, ".if 1|a|.else|b|.else|c|.endif", "1 a")
	rejects(t, ".if 0|a|.else|b|.else|c|.endif", api.ErrSyntax, 4)
	rejects(t, ".if 0|a|.else|.else|.endif", api.ErrSyntax, 3)
	// In blocks of other kinds the word divides nothing.
	yields(t, ".rept 0|a|.else|b|.endr", "")
	rejects(t, ".rept 1|a|.else|b|.endr", api.ErrSyntax, 2)
	rejects(t, ".if 1|.rept 1|a|.else|b|.endr|.endif", api.ErrSyntax, 3)
	yields(t, ".if 1|.rept 0|a|.else|b|.endr|c|.else|d|.endif", "6 c")
	yields(t, ".if 0|.rept 1|a|.else|b|.endr|c|.else|d|.endif", "8 d")
	yields(t, ".if 0|.macro m|.else|.endm|.else|d|.endif", "5 d")
	yields(t, ".macro m|.else|.endm|a", "3 a")
	rejects(t, ".macro m|.else|.endm|a|m", api.ErrSyntax, 4)
	rejects(t, ".macro m|.else|.endm|.if 0|m|.else|m|.endif", api.ErrSyntax, 6)
}
