package macro

import (
	"slices"
	"strconv"
	"strings"

	"linkhouse/api"
	"linkhouse/token"
)

// A backslash followed by the sign for numbers of calls, or by a parameter, is replaced.
const (
	backslash  = `\`
	numberSign = "@"
)

// definition is a macro that has been defined.
type definition struct {
	parameters []string
	body       []string
}

// textsOf returns the texts of lines.
func textsOf(lines []line) []string {
	var texts []string
	for _, l := range lines {
		texts = append(texts, l.text)
	}
	return texts
}

// replacement is a text that replaces a backslash followed by a name.
type replacement struct {
	name, text string
}

// replacer returns what makes lines from those of the body, for a call with arguments and a number. It replaces nothing in the texts that it puts in.
func (d definition) replacer(arguments []string, number int) *strings.Replacer {
	all := []replacement{{numberSign, strconv.Itoa(number)}}
	for k, parameter := range d.parameters {
		all = append(all, replacement{parameter, arguments[k]})
	}
	// If several names fit, a replacer takes the one that it has been given first.
	slices.SortFunc(all, func(a, b replacement) int { return len(b.name) - len(a.name) })
	var pairs []string
	for _, r := range all {
		pairs = append(pairs, backslash+r.name, r.text)
	}
	return strings.NewReplacer(pairs...)
}

// lines returns the lines that a call with arguments and a number makes, with the position of the call, and whether none of them is too long.
func (d definition) lines(arguments []string, number, from int) ([]line, bool) {
	r := d.replacer(arguments, number)
	var made []line
	for _, text := range d.body {
		text = r.Replace(text)
		if len(text) > api.MaxText {
			return nil, false
		}
		made = append(made, read(text, from))
	}
	return made, true
}

// areNames tells whether words are names, and at least one.
func areNames(words []string) bool {
	return len(words) > 0 && !slices.ContainsFunc(words, func(word string) bool { return !token.IsName(word) })
}

// hasEqual tells whether two of the words are equal.
func hasEqual(words []string) bool {
	sorted := slices.Sorted(slices.Values(words))
	return len(slices.Compact(sorted)) < len(words)
}
