package source_test

import (
	"slices"
	"strings"
	"testing"
	"unsafe"

	"linkhouse/api"
	"linkhouse/source"
)

// TestExamples has the examples of the chapter.
func TestExamples(t *testing.T) {
	l := []api.Clause{{Label: "a", Name: "add", Args: [][]api.Token{{{Kind: api.TokenName, Text: "r1"}}, {{Kind: api.TokenName, Text: "r2"}}}}}
	expectParse(t, []string{"a: add r1, r2"}, l, none)
	expectPrint(t, l, []string{"a: add r1, r2"}, none)
}

// copied returns clauses that share no lists with the given ones. Spare capacity counts as part of a list.
func copied(l []api.Clause) []api.Clause {
	l = slices.Clone(l[:cap(l)])
	for k, c := range l {
		l[k].Args = slices.Clone(c.Args[:cap(c.Args)])
		for n, argument := range l[k].Args {
			l[k].Args[n] = slices.Clone(argument[:cap(argument)])
		}
	}
	return l
}

// TestNoAliasing checks that arguments, with the spare capacity of their lists, stay as they are, and that results are new memory.
func TestNoAliasing(t *testing.T) {
	lines := []string{"a: add r1, (r2, 3)", "", "x = 5, 6", "spare"}
	oldLines := slices.Clone(lines)
	tokens := argument("r1 ( r2 , 3 ) x 5 6 spare spare")
	arguments := [][]api.Token{tokens[:1], tokens[1:6], tokens[6:7], tokens[7:8], tokens[8:9], tokens[9:]}
	l := []api.Clause{{Label: "a", Name: "add", Args: arguments[:2]}, {Line: 2, Name: "=", Args: arguments[2:5]}, {Line: -1, Name: "spare"}}
	oldTokens, old := slices.Clone(tokens), copied(l)
	for range 3 {
		expectParse(t, lines[:3], l[:2], none)
		expectPrint(t, l[:2], []string{"a: add r1, ( r2 , 3 )", "", "x = 5, 6"}, none)
		parsed, _ := source.Parse(lines[:3])
		for _, c := range parsed {
			for _, argument := range c.Args {
				clear(argument[:cap(argument)])
			}
			clear(c.Args[:cap(c.Args)])
		}
		clear(parsed[:cap(parsed)])
		printed, _ := source.Print(l[:2])
		clear(printed[:cap(printed)])
	}
	if !slices.Equal(lines, oldLines) || !slices.Equal(tokens, oldTokens) || !slices.EqualFunc(copied(l), old, same) {
		t.Error("an argument has changed")
	}
}

// span is a part of the memory.
type span struct {
	from, to uintptr
}

// spanOf returns the memory of a list, with its spare capacity.
func spanOf[T any](l []T) span {
	from := uintptr(unsafe.Pointer(unsafe.SliceData(l)))
	var element T
	return span{from, from + uintptr(cap(l))*unsafe.Sizeof(element)}
}

func textSpan(text string) span {
	from := uintptr(unsafe.Pointer(unsafe.StringData(text)))
	return span{from, from + uintptr(len(text))}
}

// spansOf returns the memory of the lists and texts of clauses, apart from that of the list of clauses.
func spansOf(l []api.Clause) []span {
	var spans []span
	for _, c := range l {
		spans = append(spans, textSpan(c.Label), textSpan(c.Name), spanOf(c.Args))
		for _, argument := range c.Args {
			spans = append(spans, spanOf(argument))
			for _, token := range argument {
				spans = append(spans, textSpan(token.Text))
			}
		}
	}
	return spans
}

// overlap tells whether two parts of the memory have a byte in common.
func overlap(a, b span) bool {
	return a.from < a.to && b.from < b.to && a.from < b.to && b.from < a.to
}

// TestMemoryIsNew checks that lists and texts of a result share no memory with an argument or with each other.
func TestMemoryIsNew(t *testing.T) {
	lines := []string{strings.Clone("nop"), strings.Clone("a: f (b, c), d << e, 1, =, a"), strings.Clone("a:"), strings.Clone("x = y, z = 1"), strings.Clone("l: x = x")}
	l, fault := source.Parse(lines)
	if fault != none || len(l) != len(lines) {
		t.Fatalf("got %v and %v", l, fault)
	}
	spans := spansOf(l)
	for k, a := range spans {
		for _, line := range lines {
			if overlap(a, textSpan(line)) {
				t.Errorf("part %d shares memory with a line", k)
			}
		}
		for n, b := range spans[:k] {
			if overlap(a, b) {
				t.Errorf("parts %d and %d share memory", n, k)
			}
		}
	}
	printed, fault := source.Print(l)
	if fault != none || len(printed) != len(lines) {
		t.Fatalf("got %v and %v", printed, fault)
	}
	for k, line := range printed {
		for n, a := range spans {
			if overlap(a, textSpan(line)) {
				t.Errorf("line %d shares memory with part %d", k, n)
			}
		}
	}
}

// TestAppend appends to each argument of a clause, which leaves the others as they are.
func TestAppend(t *testing.T) {
	for _, line := range []string{"l: f a, b c, (d, e), 1", "x = a, b c, (d, e), 1"} {
		l, _ := source.Parse([]string{line})
		before := copied(l)
		for _, argument := range l[0].Args {
			_ = append(argument, api.Token{Kind: api.TokenName, Text: "other"})
		}
		if !slices.EqualFunc(l, before, same) {
			t.Errorf("%q: an argument has changed", line)
		}
	}
}

// TestRepeats checks that the results of a call do not depend on the calls before it.
func TestRepeats(t *testing.T) {
	for range 3 {
		parses(t, "a: f (1, 2), 3", clause(0, "a", "f", "(1, 2)", "3"))
		rejectsLine(t, "x =", api.ErrSyntax)
		prints(t, clause(0, "", "=", "x", "5"), "x = 5")
		rejectsClause(t, clause(0, "", "=", "x"), api.ErrMalformed)
		expectParse(t, nil, nil, none)
		expectPrint(t, nil, nil, none)
	}
}
