package macro

import (
	"slices"
	"strings"

	"linkhouse/api"
	"linkhouse/expr"
	"linkhouse/token"
)

// Names of macros do not begin with this, so that no macro hides a word of this package.
const reserved = "."

// expansion is what has been done and what remains known while lines are processed.
type expansion struct {
	macros    map[string]definition
	processed int // lines that have been processed
	calls     int
	result    []api.Line
}

// process processes lines with a depth.
func (e *expansion) process(lines []line, depth int) api.Fault {
	for len(lines) > 0 {
		size, fault := e.step(lines, depth)
		if fault != (api.Fault{}) {
			return fault
		}
		lines = lines[size:]
	}
	return api.Fault{}
}

// step processes the first of some lines, with the block that it may open, and returns how many lines it has dealt with.
func (e *expansion) step(lines []line, depth int) (int, api.Fault) {
	first := lines[0]
	e.processed++
	if e.processed > api.MaxWork {
		return 0, first.fault(api.ErrTooMany)
	}
	if opens(first.word) {
		block, fault := blockOf(lines)
		if fault != (api.Fault{}) {
			return 0, fault
		}
		return len(block), e.processBlock(block, depth)
	}
	if closes(first.word) || first.word == divisionWord {
		return 0, first.fault(api.ErrSyntax)
	}
	if macro, found := e.macros[first.word]; found {
		return 1, e.call(macro, first, depth)
	}
	return 1, first.fault(e.keep(first))
}

// processBlock processes a block with a depth.
func (e *expansion) processBlock(block []line, depth int) api.Fault {
	switch block[0].word {
	case macroWord:
		return block[0].fault(e.define(block))
	case conditionWord:
		return e.choose(block, depth)
	}
	return e.repeat(block, depth)
}

// define defines the macro of a block. It returns the code of the error if this is not possible.
func (e *expansion) define(block []line) int {
	names := slices.Collect(block[0].words())
	if !areNames(names) {
		return api.ErrName
	}
	name, parameters := names[0], names[1:]
	if _, found := e.macros[name]; found || hasEqual(parameters) {
		return api.ErrExists
	}
	if strings.HasPrefix(name, reserved) {
		return api.ErrName
	}
	e.macros[name] = definition{parameters: parameters, body: textsOf(within(block))}
	return api.OK
}

// choose processes the lines of a condition that its number selects.
func (e *expansion) choose(block []line, depth int) api.Fault {
	number, code := numberOf(block[0].rest)
	if code != api.OK {
		return block[0].fault(code)
	}
	chosen, others := divided(block)
	if number == 0 {
		chosen = others
	}
	return e.process(chosen, depth)
}

// repeat processes the lines of a repetition as often as its number says.
func (e *expansion) repeat(block []line, depth int) api.Fault {
	times, code := numberOf(block[0].rest)
	if code != api.OK {
		return block[0].fault(code)
	}
	if times < 0 || times > api.MaxSource {
		return block[0].fault(api.ErrRange)
	}
	for range times {
		if fault := e.process(within(block), depth); fault != (api.Fault{}) {
			return fault
		}
	}
	return api.Fault{}
}

// numberOf returns the value of an expression without symbols, or the code of the error if it has none.
func numberOf(text string) (int, int) {
	tokens, fault := token.Split(text)
	if fault != (api.Fault{}) {
		return 0, api.ErrSyntax
	}
	nodes, fault := expr.Parse(tokens)
	if fault != (api.Fault{}) {
		return 0, api.ErrSyntax
	}
	value, fault := expr.Value(nodes, nil)
	if fault != (api.Fault{}) || value.Symbol != "" || value.Minus != "" {
		return 0, api.ErrRange
	}
	return value.Number, api.OK
}

// call processes the lines that the call of a macro makes.
func (e *expansion) call(macro definition, l line, depth int) api.Fault {
	arguments := l.arguments()
	if len(arguments) != len(macro.parameters) {
		return l.fault(api.ErrLength)
	}
	if depth == api.MaxDepth {
		return l.fault(api.ErrCycle)
	}
	e.calls++
	made, ok := macro.lines(arguments, e.calls, l.from)
	if !ok {
		return l.fault(api.ErrTooLarge)
	}
	return e.process(made, depth+1)
}

// keep appends a line to the result. It returns the code of the error if that has enough lines already.
func (e *expansion) keep(l line) int {
	if len(e.result) == api.MaxSource {
		return api.ErrTooMany
	}
	// The clone keeps the result from sharing the memory of the source text, and its lines from sharing that of each other.
	e.result = append(e.result, api.Line{Text: strings.Clone(l.text), From: l.from})
	return api.OK
}
