package macro_test

import (
	"strconv"
	"strings"
	"testing"

	"linkhouse/api"
)

// TestConditions has numbers that are 0 and that are not.
func TestConditions(t *testing.T) {
	for _, text := range []string{"1", "2", "-1", "~0", "0x10", "4294967295", "1 - 2", "(1)", "1 << 40", "-(1 << 40)", "a - a + 1", "3 / 2", "5&4", "1 ; 2", "\t 7 \t", "- - 1", "301"} {
		yields(t, ".if "+text+"|a|.else|b|.endif", "1 a")
		yields(t, ".if "+text+"|a|.endif", "1 a")
	}
	for _, text := range []string{"0", "0x0", "-0", "~-1", "1-1", "(0)", "0 * 5", "a - a", "1 / 2", "1 & 2", "4 % 2", "0;1", "1 >> 40"} {
		yields(t, ".if "+text+"|a|.else|b|.endif", "3 b")
		yields(t, ".if "+text+"|a|.endif", "")
	}
}

// TestRepetitions has numbers of repetitions.
func TestRepetitions(t *testing.T) {
	for _, text := range []string{"0", "0x0", "-0", "1 - 1", "a - a", "1 / 2"} {
		yields(t, ".rept "+text+"|a|.endr|b", "3 b")
	}
	for _, text := range []string{"3", "0x3", "1 + 2", "(3)", "a + 3 - a", "~-4", "\t3\t", "3;4", "7 % 4"} {
		yields(t, ".rept "+text+"|a|.endr|b", "1 a|1 a|1 a|3 b")
		yields(t, ".rept "+text+"|.endr|b", "2 b")
	}
	yields(t, ".rept 2|a|b|.endr", "1 a|2 b|1 a|2 b")
	most := strconv.Itoa(api.MaxSource)
	yields(t, ".rept "+most+"|.endr", "")
	yields(t, ".rept "+most+"|a|.endr", strings.Repeat("|1 a", api.MaxSource)[1:])
	yields(t, "a|.if 1|.rept "+most+" - 1|b|.endr|.endif", "0 a"+strings.Repeat("|3 b", api.MaxSource-1))
}

// TestNoTokens has texts that are not divided into tokens, or are no expressions, also where they are wrong in other ways.
func TestNoTokens(t *testing.T) {
	for _, text := range []string{"", "?", "1 ?", "01", "4294967296", "1a", strings.Repeat("a", api.MaxName+1), "\"a\"", "\\a", "1 \xff", "1 < 2", "1\n", "1.5", "ä", "1 2", "a b", "+", "+1", "1 +", "(1", "1)", "()", ",", "1,", "1, 2", "a:", "a = 1", "@", "1 / 0 )", "-1 +", "a * b (", "400 300", "1 / 0 ?", ")(", "1 == 1", strings.Repeat("-", api.MaxDepth+1) + "1", strings.Repeat("(", api.MaxDepth+1) + "1" + strings.Repeat(")", api.MaxDepth+1), strings.Repeat("1+", api.MaxExpr/2) + "1"} {
		for _, word := range []string{".if ", ".rept "} {
			end := map[string]string{".if ": ".endif", ".rept ": ".endr"}[word]
			rejects(t, word+text+"|"+end, api.ErrSyntax, 0)
			rejects(t, "a|"+word+text+"|.else|"+end, api.ErrSyntax, 1)
			yields(t, ".if 0|"+word+text+"|"+end+"|.endif|b", "4 b")
		}
	}
	yields(t, ".rept "+strings.Repeat("-", api.MaxDepth)+"1|a|.endr", "1 a")
	yields(t, ".rept "+strings.Repeat("1+", api.MaxExpr/2-1)+"1|.endr", "")
}

// TestNoNumbers has expressions whose values are not defined, or are no numbers.
func TestNoNumbers(t *testing.T) {
	for _, text := range []string{"a", "-a", "a - b", "a + 1", "1 - a", ".", "a * 2", "a * 0", "a + b", "~a", "a << 1", "a / a", "1 / 0", "1 % 0", "1 << 41", "1 << -1", "1 >> 41", "(1 << 40) + 1", "-(1 << 40) - 1", "0 * (1 / 0)", "a - a + a", "m"} {
		for _, word := range []string{".if ", ".rept "} {
			end := map[string]string{".if ": ".endif", ".rept ": ".endr"}[word]
			rejects(t, word+text+"|"+end, api.ErrRange, 0)
			rejects(t, "a|"+word+text+"|a|.else|"+end, api.ErrRange, 1)
			yields(t, ".rept 0|"+word+text+"|"+end+"|.endr|b", "4 b")
		}
	}
	rejects(t, ".macro m|.endm|.if m|.endif", api.ErrRange, 2)
}

// TestRepetitionsOutside has numbers that are not in the range for repetitions.
func TestRepetitionsOutside(t *testing.T) {
	for _, text := range []string{"-1", "301", "~0", "300 + 1", "4294967295", "1 << 40", "-(1 << 40)", "0 - 300", "65536", "1 << 32", "-(1 << 32)"} {
		rejects(t, ".rept "+text+"|.endr", api.ErrRange, 0)
		rejects(t, "a|.rept "+text+"|a|.else|.endr", api.ErrRange, 1)
		yields(t, ".if "+text+"|a|.endif", "1 a")
	}
}
