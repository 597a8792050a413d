package macro_test

import (
	"strings"
	"testing"

	"linkhouse/api"
)

// TestDefinitions has names of all sorts, and parameters of all sorts.
func TestDefinitions(t *testing.T) {
	for _, name := range rightNames() {
		yields(t, ".macro "+name+"|<>|.endm|"+name+"|"+name+"x| "+name+" ;|"+name+":", "3 <>|4 "+name+"x|5 <>|6 "+name+":")
	}
	for _, name := range append(rightNames(), ".", ".a", ".if", ".macro", ".else", strings.Repeat(".", api.MaxName)) {
		yields(t, ".macro m "+name+"|<\\"+name+">|.endm|m x", "3 <x>")
	}
	yields(t, ".macro m m|\\m|.endm|m x", "3 x")
	yields(t, ".macro m|.endm|m|a", "3 a")
	yields(t, ".macro m a b c d e f g h|\\h\\g\\f\\e\\d\\c\\b\\a|.endm|m 1,2,3,4,5,6,7,8", "3 87654321")
	// A line is a call only behind the block that defines the macro.
	yields(t, "m|.macro m|a|.endm|m", "0 m|4 a")
	yields(t, ".macro m|n|.endm|m|.macro n|a|.endm|m", "3 n|7 a")
}

// TestWrongNames has words that are no names, and names of macros that begin with a full stop.
func TestWrongNames(t *testing.T) {
	rejects(t, ".macro|.endm", api.ErrName, 0)
	rejects(t, "a|.macro \t |a|.endm", api.ErrName, 1)
	for _, word := range wrongWords() {
		rejects(t, ".macro "+word+"|.endm", api.ErrName, 0)
		rejects(t, "a|.macro m "+word+"|a|.endm", api.ErrName, 1)
		rejects(t, ".macro m a b "+word+" c|.endm", api.ErrName, 0)
		rejects(t, ".macro m a "+word+" a "+word+"|.endm", api.ErrName, 0)
		rejects(t, ".macro m|.endm|.macro m "+word+"|.endm", api.ErrName, 2)
		rejects(t, ".macro .m a a "+word+"|.endm", api.ErrName, 0)
	}
	for _, name := range []string{".", ".m", ".if", ".macro", ".word", "..", strings.Repeat(".", api.MaxName)} {
		rejects(t, ".macro "+name+"|.endm", api.ErrName, 0)
		rejects(t, "a|.macro "+name+" a b|.endm", api.ErrName, 1)
		rejects(t, ".macro "+name+" a b a|.endm", api.ErrExists, 0)
	}
}

// TestEqual has equal parameters, and macros that are defined already.
func TestEqual(t *testing.T) {
	rejects(t, ".macro m a a|.endm", api.ErrExists, 0)
	rejects(t, "x|.macro m a b c b|.endm", api.ErrExists, 1)
	rejects(t, ".macro m a b c a|.endm", api.ErrExists, 0)
	rejects(t, ".macro m m m|.endm", api.ErrExists, 0)
	yields(t, ".macro m a A aa a.|\\a\\A\\aa\\a.|.endm|m 1,2,3,4", "3 1234")
	rejects(t, ".macro m|a|.endm|.macro m|a|.endm", api.ErrExists, 3)
	rejects(t, ".macro m|a|.endm|.macro m b|.endm|a", api.ErrExists, 3)
	rejects(t, ".macro m|.endm|m|.if 1|.macro m|.endm|.endif", api.ErrExists, 4)
	yields(t, ".macro m|.endm|.if 0|.macro m|.endm|.endif|a", "6 a")
	yields(t, ".macro m|a|.endm|.macro M|b|.endm|M|m", "6 b|7 a")
	yields(t, ".macro m a|b|.endm|.macro n m a|c|.endm|n 1, 2|m 1", "6 c|7 b")
}

// TestDefinedWithin has macros that are defined within blocks and calls, and used behind them.
func TestDefinedWithin(t *testing.T) {
	yields(t, ".if 1|.macro m|a|.endm|.endif|m", "5 a")
	yields(t, ".if 0|.macro m|a|.endm|.endif|m", "5 m")
	yields(t, ".if 0|.else|.macro m|a|.endm|.endif|m", "6 a")
	yields(t, ".rept 1|.macro m|a|.endm|m|.endr|m", "4 a|6 a")
	yields(t, ".rept 0|.macro m|a|.endm|m|.endr|m", "6 m")
	rejects(t, ".rept 2|.macro m|a|.endm|m|.endr|m", api.ErrExists, 1)
	yields(t, ".macro d|.macro m|a|.endm|.endm|m|d|m", "5 m|7 a")
	rejects(t, ".macro d|.macro m|a|.endm|.endm|d|a|d", api.ErrExists, 7)
	rejects(t, ".macro m|.macro m|.endm|.endm|a|m", api.ErrExists, 5)
	// The outer macro replaces parameters and numbers in the inner definition too.
	yields(t, ".macro d n x|.macro \\n y|\\x \\y \\@|.endm|.endm|d m, 1|d k, 2|m 3|k 4", "7 1 3 1|8 2 4 2")
	yields(t, ".macro d y|.macro m y|\\y|.endm|.endm|d 1|m 2", "6 1")
	rejects(t, ".macro d y|.macro m \\y|.endm|.endm|a|d 1", api.ErrName, 5)
	rejects(t, ".macro d y|.macro m \\y b|.endm|.endm|a|d b", api.ErrExists, 5)
	yields(t, ".macro d|.macro m\\@|a\\@|.endm|.endm|d|d|m2|m1", "7 a2|8 a1")
	yields(t, ".macro d|.macro m x|<\\x>|.endm|.endm|d|m 5", "6 <5>")
}

// TestInstructions has macros with the names of instructions, which are called like others.
func TestInstructions(t *testing.T) {
	yields(t, "nop|.macro nop|add|.endm|nop|add|\tnop ; add", "0 nop|4 add|5 add|6 add")
	yields(t, ".macro add a b|sub \\b, \\a|.endm|add r1, r2", "3 sub r2, r1")
	rejects(t, ".macro nop|add|.endm|nop x", api.ErrLength, 3)
	rejects(t, "a|.macro nop|nop|.endm|nop", api.ErrCycle, 4)
}

// TestArguments has spaces and tabs around arguments, empty arguments, and none.
func TestArguments(t *testing.T) {
	one := ".macro m a|<\\a>|.endm|"
	two := ".macro m a b|<\\a><\\b>|.endm|"
	yields(t, one+"m x|m  x|m\tx|m \t x \t |m x;y|m x y|m x\t y|m \"|m \\a|m a b ;,", "3 <x>|4 <x>|5 <x>|6 <x>|7 <x>|8 <x y>|9 <x\t y>|10 <\">|11 <\\a>|12 <a b>")
	yields(t, two+"m x,y|m x , y|m\tx\t,\ty\t|m x,|m ,y|m ,|m , ;|m \t,\t|m x y,z w|m (x,y)|m \\b,\\a", "3 <x><y>|4 <x><y>|5 <x><y>|6 <x><>|7 <><y>|8 <><>|9 <><>|10 <><>|11 <x y><z w>|12 <(x><y)>|13 <\\b><\\a>")
	yields(t, one+"m \xff|m ä|m \v|m \n|m \u00a0", "3 <\xff>|4 <ä>|5 <\v>|6 <\n>|7 <\u00a0>")
	none := ".macro m|<>|.endm|"
	yields(t, none+"m|m |m\t| m|m;x|m ;x,y", "3 <>|4 <>|5 <>|6 <>|7 <>|8 <>")
	for _, rest := range []string{" x", " ,", ",", " x,y", "\tx", " \\a"} {
		text := "m" + rest
		if rest == "," {
			yields(t, none+text, "3 m,")
			continue
		}
		rejects(t, none+"a|"+text, api.ErrLength, 4)
	}
	for _, text := range []string{"m", "m ", "m\t", "m;x", "m ; x", "m x,y", "m ,", "m x,", "m ,,", "m x,y,z"} {
		rejects(t, one+"a|"+text, api.ErrLength, 4)
	}
	for _, text := range []string{"m", "m \t", "m x", "m x;,", "m ;,", "m x,y,z", "m ,,", "m x,y,"} {
		rejects(t, two+text, api.ErrLength, 3)
	}
}

// TestReplaced has a backslash before all sorts of texts.
func TestReplaced(t *testing.T) {
	m := ".macro m a ab b.c|"
	for body, want := range map[string]string{
		`\a`:            "1",
		`x\a`:           "x1",
		`\ax`:           "1x",
		`\ab`:           "2",
		`\abc`:          "2c",
		`\a b`:          "1 b",
		`\aab`:          "1ab",
		`\a\ab\a`:       "121",
		`\b`:            `\b`,
		`\b.`:           `\b.`,
		`\b.c`:          "3",
		`\b.cc`:         "3c",
		`\b.\a`:         `\b.1`,
		`\A`:            `\A`,
		`\`:             `\`,
		`x\`:            `x\`,
		`\a\`:           `1\`,
		`\\`:            `\\`,
		`\\a`:           `\1`,
		`\\\a`:          `\\1`,
		`\\@`:           `\1`,
		`\@`:            "1",
		`\@\@`:          "11",
		`\@a`:           "1a",
		`\a@`:           "1@",
		`\ab@`:          "2@",
		`@`:             "@",
		`a`:             "a",
		`\ a`:           `\ a`,
		`\ @`:           `\ @`,
		`a \a ; \ab`:    "a 1 ; 2",
		`; \a`:          "; 1",
		`;\@\`:          `;1\`,
		"\t\\a\t":       "\t1\t",
		`"\a"`:          `"1"`,
		"\\\xff\\a\xff": "\\\xff1\xff",
		"\\ä":           "\\ä",
		"a\\":           "a\\",
		`\a:\a,\ab`:     "1:1,2",
		"":              "",
	} {
		yields(t, m+body+"|.endm|m 1,2,3", "3 "+want)
		yields(t, m+"x|"+body+"|"+body+"|.endm|m 1,2,3", "5 x|5 "+want+"|5 "+want)
	}
}

// TestLongestName has parameters of which one begins with another, in all orders.
func TestLongestName(t *testing.T) {
	for _, parameters := range []string{"a ab abc", "a abc ab", "ab a abc", "ab abc a", "abc a ab", "abc ab a"} {
		arguments := strings.NewReplacer("abc", "3", "ab", "2", "a", "1", " ", ",").Replace(parameters)
		yields(t, ".macro m "+parameters+`|\a \ab \abc \abcd \abd \ac \abab \abcabc|.endm|m `+arguments, "3 1 2 3 3d 2d 1c 2ab 3abc")
	}
	long := strings.Repeat("a", api.MaxName)
	yields(t, ".macro m a "+long+` aa|\`+long+` \`+long+`a \`+long[1:]+`|.endm|m 1,2,3`, "3 2 2a 3"+long[3:])
}

// TestReplacedTexts has arguments with backslashes, which are not replaced again in the same call.
func TestReplacedTexts(t *testing.T) {
	yields(t, `.macro m a b|\a \b|.endm|m \b, \a|m \@, \|m \a, \a`, `3 \b \a|4 \@ \|5 \a \a`)
	yields(t, `.macro m a b|\a\b|.endm|m \, a|m \, @|m a, b`, `3 \a|4 \@|5 ab`)
	yields(t, `.macro m a|\aa|.endm|m \`, `3 \a`)
	yields(t, `.macro m a|\\aa|.endm|m \`, `3 \\a`)
	// In another call they are.
	yields(t, `.macro k x y|m \x|.endm|.macro m a|\a|.endm|k \\y, 1|k \y, 1`, `6 \\y|7 \y`)
	yields(t, `.macro d x|.macro m a|\x|.endm|.endm|d \a \@|m 1`, `6 1 2`)
}

// TestMadeLines has lines of a body that become words of blocks, calls and comments when they are made.
func TestMadeLines(t *testing.T) {
	yields(t, `.macro m a|.\a 1|b|.end\a|.endm|m if`, "5 b")
	yields(t, `.macro m a b|.rept \a|\b|.endr|.endm|m 3, x|m 0, y|m 1+1, z`, "5 x|5 x|5 x|7 z|7 z")
	yields(t, `.macro m a|\a|.endm|.macro k|x|.endm|m k`, "6 x")
	yields(t, `.macro m a b|\a \b|.endm|.macro k c|<\c>|.endm|.macro l|x|.endm|m k, x y|m l,|m ,l`, "9 <x y>|10 x|11 x")
	rejects(t, `.macro m a b|\a \b|.endm|m .if, 1|.endif`, api.ErrSyntax, 3)
	rejects(t, `.macro m a b|\a \b|.endm|.if 1|m .endif,|.endif`, api.ErrSyntax, 4)
	rejects(t, `.macro m a b|\a \b|.endm|.if 0|m .else,|.endif|m .else,`, api.ErrSyntax, 6)
}

// TestEveryByte has each byte at the ends of arguments and of first words: only spaces and tabs are left out.
func TestEveryByte(t *testing.T) {
	for b := range 256 {
		text := string([]byte{byte(b)})
		call, word := "m "+text+"x"+text, text+"m"+text+"x"
		switch text {
		case " ", "\t":
			expect(t, []string{".macro m a", "<\\a>", ".endm", call, word}, made(t, "3 <x>|4 <x>"), none)
		case ",":
			expect(t, []string{".macro m a b c", "<\\a\\b\\c>", ".endm", call, word}, []api.Line{{Text: "<x>", From: 3}, {Text: word, From: 4}}, none)
		case ";":
			expect(t, []string{".macro m", "<>", ".endm", call, word}, []api.Line{{Text: "<>", From: 3}, {Text: word, From: 4}}, none)
		default:
			expect(t, []string{".macro m a", "<\\a>", ".endm", call, word}, []api.Line{{Text: "<" + text + "x" + text + ">", From: 3}, {Text: word, From: 4}}, none)
		}
	}
}
