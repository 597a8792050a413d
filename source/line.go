package source

import (
	"slices"
	"strings"

	"linkhouse/api"
	"linkhouse/token"
)

const space = " "

// lineOf returns the line of a clause, whose position must be at least the first one that is free, or the code of the error if the clause has none.
func lineOf(c api.Clause, free int) (string, int) {
	if c.Line < free || c.Line >= api.MaxSource {
		return "", api.ErrRange
	}
	if slices.ContainsFunc(c.Args, isMalformed) {
		return "", api.ErrMalformed
	}
	line, ok := written(c)
	if !ok || len(line) > api.MaxText {
		return "", api.ErrTooLarge
	}
	if !isRead(line, c) {
		return "", api.ErrMalformed
	}
	return line, api.OK
}

// isMalformed tells whether an element of an argument cannot be in a clause.
func isMalformed(argument []api.Token) bool {
	return slices.ContainsFunc(argument, func(t api.Token) bool { return !token.IsToken(t) || t.At != 0 })
}

// written returns the text of a clause whose arguments consist of tokens, and whether none of them is too long by itself.
func written(c api.Clause) (string, bool) {
	var arguments []string
	for _, argument := range c.Args {
		text, fault := token.Join(argument)
		if fault != (api.Fault{}) {
			return "", false
		}
		arguments = append(arguments, text)
	}
	name := c.Name
	if name == assignmentSign && len(arguments) > 0 {
		name, arguments = arguments[0]+space+assignmentSign, arguments[1:]
	}
	// The clone keeps the line from sharing the memory of a Name that stands alone.
	return strings.Clone(labelText(c) + name + argumentsText(arguments)), true
}

// labelText returns what precedes the Name of a clause in its line.
func labelText(c api.Clause) string {
	switch {
	case c.Label == "":
		return ""
	case c.Name == "":
		return c.Label + labelSign
	}
	return c.Label + labelSign + space
}

// argumentsText returns what follows the Name of a clause in its line.
func argumentsText(arguments []string) string {
	if len(arguments) == 0 {
		return ""
	}
	return space + strings.Join(arguments, separator+space)
}

// isRead tells whether a line has a clause that equals the given one, apart from its position.
func isRead(line string, c api.Clause) bool {
	read, fault := Parse([]string{line})
	if fault != (api.Fault{}) || len(read) != 1 {
		return false
	}
	sameArgs := slices.EqualFunc(read[0].Args, c.Args, slices.Equal[[]api.Token])
	return read[0].Label == c.Label && read[0].Name == c.Name && sameArgs
}
