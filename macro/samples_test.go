package macro_test

import (
	"fmt"
	"slices"
	"strconv"
	"strings"
	"testing"

	"linkhouse/api"
	"linkhouse/macro"
)

var none = api.Fault{}

// failed is a fault at a position.
func failed(code, at int) api.Fault { return api.Fault{Code: code, Index: at} }

// short returns the beginning of how arguments are printed.
func short(l ...any) string { return fmt.Sprintf("%.500q", fmt.Sprint(l...)) }

// expect expands a source text and compares both results. A fault comes with nil only.
func expect(t *testing.T, lines []string, want []api.Line, fault api.Fault) {
	t.Helper()
	got, gotFault := macro.Expand(lines)
	if !slices.Equal(got, want) || gotFault != fault || fault != none && got != nil {
		t.Fatalf("%s: got %s, want %s", short(strings.Join(lines, "|")), short(gotFault, got), short(fault, want))
	}
}

// divide divides a text at vertical lines.
func divide(text string) []string { return strings.Split(text, "|") }

// made reads lines of a result, each of which is written as its position, a space, and its text.
func made(t *testing.T, text string) []api.Line {
	t.Helper()
	var l []api.Line
	if text == "" {
		return nil
	}
	for _, part := range divide(text) {
		digits, text, found := strings.Cut(part, " ")
		from, err := strconv.Atoi(digits)
		if err != nil || !found {
			t.Fatalf("%q is no line of a result", part)
		}
		l = append(l, api.Line{Text: text, From: from})
	}
	return l
}

// yields expands a source text, whose lines are written between vertical lines, and compares the result.
func yields(t *testing.T, source, want string) {
	t.Helper()
	expect(t, divide(source), made(t, want), none)
}

// rejects expands a source text, whose lines are written between vertical lines, and compares the fault.
func rejects(t *testing.T, source string, code, at int) {
	t.Helper()
	expect(t, divide(source), nil, failed(code, at))
}

// repeated returns lines one after the other, several times.
func repeated(times int, lines ...string) []string { return slices.Repeat(lines, times) }

// source returns the lines of several parts of a source text.
func source(parts ...[]string) []string { return slices.Concat(parts...) }

// working returns lines without a result, of which a number is processed.
func working(number int) []string {
	var l []string
	for ; number > 2*api.MaxSource; number -= 2*api.MaxSource + 1 {
		l = append(l, ".rept 300", ".if 0", ".endif", ".if 0", ".endif", ".endr")
	}
	if number > api.MaxSource {
		l = append(l, ".rept 299", ".if 0", ".endif", ".endr")
		number -= api.MaxSource
	}
	if number > 1 {
		l = append(l, ".rept "+strconv.Itoa(number-1), ".if 0", ".endif", ".endr")
	} else if number == 1 {
		l = append(l, ".if 0", ".endif")
	}
	return l
}

// wrongWords are words that are no names.
func wrongWords() []string {
	return []string{"1", "0", "1a", "0x1", "a,b", "a,", ",", "+", "a+b", "a:", "\\a", "\\", "@", "\"a\"", "ä", "\xff", "\x00", "a\n", "a\r", "\v", "\u00a0", strings.Repeat("a", api.MaxName+1), strings.Repeat("a", 100)}
}

// rightNames are names that do not begin with a full stop.
func rightNames() []string {
	return []string{"a", "Z", "_", "$", "a.b", "a1", "_0$.", "nop", "add", "macro", "else", "r1", strings.Repeat("a", api.MaxName), "$" + strings.Repeat("9", api.MaxName-1)}
}

// expandQuietly expands a source text, and checks nothing.
func expandQuietly(lines []string) ([]api.Line, api.Fault) { return macro.Expand(lines) }
