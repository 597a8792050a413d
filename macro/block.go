package macro

import (
	"iter"

	"linkhouse/api"
)

// The words that open, divide and close blocks.
const (
	macroWord     = ".macro"
	macroEnd      = ".endm"
	conditionWord = ".if"
	divisionWord  = ".else"
	conditionEnd  = ".endif"
	repeatWord    = ".rept"
	repeatEnd     = ".endr"
)

// endOf returns the word with which the blocks that a word opens must end, or nothing if the word opens none.
func endOf(word string) string {
	switch word {
	case macroWord:
		return macroEnd
	case conditionWord:
		return conditionEnd
	case repeatWord:
		return repeatEnd
	}
	return ""
}

func opens(word string) bool {
	return endOf(word) != ""
}

func closes(word string) bool {
	return word == macroEnd || word == conditionEnd || word == repeatEnd
}

// levels yields the positions of lines, with the number of lines up to there that have opened a block, less that of those that have closed one.
func levels(lines []line) iter.Seq2[int, int] {
	return func(yield func(int, int) bool) {
		level := 0
		for position, l := range lines {
			switch {
			case opens(l.word):
				level++
			case closes(l.word):
				level--
			}
			if !yield(position, level) {
				return
			}
		}
	}
}

// blockSize returns how many lines the block has that the first of some lines opens, or 0 if it does not end.
func blockSize(lines []line) int {
	for position, level := range levels(lines) {
		if level == 0 {
			return position + 1
		}
	}
	return 0
}

// blockOf returns the block that the first of some lines opens.
func blockOf(lines []line) ([]line, api.Fault) {
	size := blockSize(lines)
	if size == 0 {
		return nil, lines[0].fault(api.ErrSyntax)
	}
	block := lines[:size]
	if last := block[size-1]; last.word != endOf(lines[0].word) {
		return nil, last.fault(api.ErrSyntax)
	}
	return block, api.Fault{}
}

// within returns the lines between the first and the last line of a block.
func within(block []line) []line {
	return block[1 : len(block)-1]
}

// divided returns the lines before and behind the line that divides a block, which are all and none if no line does.
func divided(block []line) ([]line, []line) {
	lines := within(block)
	for position, level := range levels(lines) {
		// At the level 0 a line is in no block within this one, because a line that opens one has the level 1 and one that closes one is not this word.
		if level == 0 && lines[position].word == divisionWord {
			return lines[:position], lines[position+1:]
		}
	}
	return lines, nil
}
