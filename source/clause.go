package source

import (
	"slices"

	"linkhouse/api"
)

// The signs that divide a line. No token of another kind has their texts.
const (
	labelSign      = ":"
	assignmentSign = "="
	separator      = ","
	opening        = "("
	closing        = ")"
)

// clauseOf returns the clause of a line, without its position, and whether the tokens are one. The clause takes over the memory of the tokens.
func clauseOf(tokens []api.Token) (api.Clause, bool) {
	for k := range tokens {
		tokens[k].At = 0
	}
	var c api.Clause
	if hasLabel(tokens) {
		c.Label, tokens = tokens[0].Text, tokens[2:]
	}
	if len(tokens) == 0 {
		return c, true
	}
	if tokens[0].Kind != api.TokenName {
		return api.Clause{}, false
	}
	name, rest := tokens[0], tokens[1:]
	switch {
	case len(rest) == 0:
		c.Name = name.Text
	case rest[0].Text == assignmentSign:
		c.Name = rest[0].Text
		c.Args = append([][]api.Token{part(tokens, 0, 1)}, divided(rest[1:])...)
	default:
		c.Name, c.Args = name.Text, divided(rest)
	}
	if slices.ContainsFunc(c.Args, isEmpty) {
		return api.Clause{}, false
	}
	return c, true
}

func hasLabel(tokens []api.Token) bool {
	return len(tokens) > 1 && tokens[0].Kind == api.TokenName && tokens[1].Text == labelSign
}

// divided returns the arguments of which tokens consist, at least one. It is empty if there are no tokens: nothing behind the sign of an assignment is an empty argument.
func divided(tokens []api.Token) [][]api.Token {
	var arguments [][]api.Token
	level, from := 0, 0
	for at, t := range tokens {
		switch t.Text {
		case opening:
			level++
		case closing:
			level--
		case separator:
			// Behind more closing signs than opening ones the level is not 0 either.
			if level == 0 {
				arguments = append(arguments, part(tokens, from, at))
				from = at + 1
			}
		}
	}
	return append(arguments, part(tokens, from, len(tokens)))
}

// part returns some of the tokens, without spare capacity, in which those behind them would be.
func part(tokens []api.Token, from, to int) []api.Token {
	return tokens[from:to:to]
}

func isEmpty(argument []api.Token) bool {
	return len(argument) == 0
}
