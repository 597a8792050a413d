package token

import (
	"math"
	"strconv"
	"strings"

	"linkhouse/api"
)

// Signs of one byte and of two.
const (
	shortSigns = "+-*/%&|^~(),:=@"
	leftShift  = "<<"
	rightShift = ">>"
)

const hexadecimal = "0x"

// first returns the token at the beginning of a text, without its offset, and the number of its bytes, which is 0 if there is none.
func first(text string) (api.Token, int) {
	if size := signSize(text); size > 0 {
		// The clone keeps the token from sharing the memory of the line.
		return api.Token{Kind: api.TokenSign, Text: strings.Clone(text[:size])}, size
	}
	word := text[:wordSize(text)]
	if value, ok := number(word); ok {
		return api.Token{Kind: api.TokenNumber, Value: value}, len(word)
	}
	if IsName(word) {
		return api.Token{Kind: api.TokenName, Text: strings.Clone(word)}, len(word)
	}
	return api.Token{}, 0
}

// signSize returns the number of bytes of the sign at the beginning of a text, or 0 if there is none. No sign of one byte begins one of two, so the order of the cases does not matter.
func signSize(text string) int {
	switch {
	case strings.HasPrefix(text, leftShift), strings.HasPrefix(text, rightShift):
		return 2
	case text != "" && strings.IndexByte(shortSigns, text[0]) >= 0:
		return 1
	}
	return 0
}

// wordSize returns how many name bytes a text begins with.
func wordSize(text string) int {
	for k := range len(text) {
		if !isNameByte(text[k]) {
			return k
		}
	}
	return len(text)
}

func isNameByte(b byte) bool {
	return 'a' <= b && b <= 'z' || 'A' <= b && b <= 'Z' || isDigit(b) || b == '.' || b == '_' || b == '$'
}

func isDigit(b byte) bool {
	return '0' <= b && b <= '9'
}

// number returns the value of a number, and whether the text is one.
func number(text string) (int, bool) {
	digits, base := text, 10
	if after, found := strings.CutPrefix(text, hexadecimal); found {
		digits, base = after, 16
	} else if len(text) > 1 && text[0] == '0' {
		return 0, false
	}
	// As the base is given, strconv.ParseUint permits nothing but digits of this base.
	value, err := strconv.ParseUint(digits, base, 32)
	if err != nil {
		return 0, false
	}
	return int(value), true
}

// IsName tells whether a text is a name.
func IsName(text string) bool {
	return text != "" && len(text) <= api.MaxName && !isDigit(text[0]) && wordSize(text) == len(text)
}

func isSign(text string) bool {
	return text != "" && signSize(text) == len(text)
}

// IsToken tells whether there is a token with the kind, text and value of t, whose offset does not matter.
func IsToken(t api.Token) bool {
	switch t.Kind {
	case api.TokenName:
		return IsName(t.Text) && t.Value == 0
	case api.TokenNumber:
		return t.Value >= 0 && t.Value <= math.MaxUint32 && t.Text == ""
	case api.TokenSign:
		return isSign(t.Text) && t.Value == 0
	}
	return false
}

// textOf returns how Join writes a token.
func textOf(t api.Token) string {
	if t.Kind == api.TokenNumber {
		return strconv.Itoa(t.Value)
	}
	return t.Text
}
