package macro

import (
	"iter"
	"strings"

	"linkhouse/api"
)

const (
	blanks  = " \t"
	comment = ";"
	comma   = ","
)

// line is a line that is processed. The first word and what follows it are kept, because a line may be examined many times.
type line struct {
	text string
	from int    // the position of the line in the source text from which it was made
	word string // the first word, or nothing if there is none
	rest string // what follows the first word before the comment, without blanks at its end
}

// read returns the line with a text and a position.
func read(text string, from int) line {
	examined, _, _ := strings.Cut(text, comment)
	examined = strings.Trim(examined, blanks)
	end := strings.IndexAny(examined, blanks)
	if end < 0 {
		end = len(examined)
	}
	return line{text: text, from: from, word: examined[:end], rest: examined[end:]}
}

// words yields the words behind the first one.
func (l line) words() iter.Seq[string] {
	return strings.FieldsFuncSeq(l.rest, func(r rune) bool { return strings.ContainsRune(blanks, r) })
}

// arguments returns the arguments of the line.
func (l line) arguments() []string {
	if l.rest == "" {
		return nil
	}
	var list []string
	for part := range strings.SplitSeq(l.rest, comma) {
		list = append(list, strings.Trim(part, blanks))
	}
	return list
}

// fault returns the fault with a code at the position of the line, which is none if the code is that of success.
func (l line) fault(code int) api.Fault {
	if code == api.OK {
		return api.Fault{}
	}
	return api.Fault{Code: code, Index: l.from}
}
