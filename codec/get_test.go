package codec_test

import (
	"bytes"
	"math"
	"slices"
	"strings"
	"testing"

	"linkhouse/api"
)

func TestGet(t *testing.T) {
	for _, s := range numberLists() {
		expectGet(t, s.code, s.l, none)
	}
}

func TestGetManyNumbers(t *testing.T) {
	for n := -1 << 14; n <= 1<<14; n++ {
		expectGet(t, oracleNumbers([]int{n}), []int{n}, none)
	}
	for shift := range 64 {
		for near := -3; near <= 3; near++ {
			n := 1<<shift + near
			expectGet(t, oracleNumbers([]int{n, -n, ^n}), []int{n, -n, ^n}, none)
		}
	}
}

func TestGetText(t *testing.T) {
	for _, s := range textLists() {
		expectGetText(t, s.code, s.l, none)
	}
}

// TestRejectsParts leaves out the end of encodings, and puts a byte behind them.
func TestRejectsParts(t *testing.T) {
	for _, s := range numberLists() {
		for n := range len(s.code) {
			expectGet(t, s.code[:n], nil, corrupt)
		}
		for _, last := range []byte{0, 1, 2, 127, 128, 255} {
			expectGet(t, append(bytes.Clone(s.code), last), nil, corrupt)
		}
	}
	for _, s := range textLists() {
		for n := range len(s.code) {
			expectGetText(t, s.code[:n], nil, corrupt)
		}
		for _, last := range []byte{0, 1, 2, 127, 128, 255} {
			expectGetText(t, append(bytes.Clone(s.code), last), nil, corrupt)
		}
	}
}

func TestGetNothing(t *testing.T) {
	for _, b := range [][]byte{nil, {}} {
		expectGet(t, b, nil, corrupt)
		expectGetText(t, b, nil, corrupt)
	}
}

// wrongNumbers are bytes in place of a number that are not its encoding.
func wrongNumbers() [][]byte {
	wrong := [][]byte{
		{128},    // no last group
		{128, 0}, // leading groups of zeros
		{129, 0},
		{255, 0},
		{128, 128, 0},
		{128, 1 + 128, 0},
		{255, 255, 255, 255, 255, 255, 255, 255, 255, 0},
		{254, 255, 255, 255, 255, 255, 255, 255, 255, 2}, // more than 64 bits
		{254, 255, 255, 255, 255, 255, 255, 255, 255, 3},
		{128, 128, 128, 128, 128, 128, 128, 128, 128, 64},
		{254, 255, 255, 255, 255, 255, 255, 255, 255, 127},
		{254, 255, 255, 255, 255, 255, 255, 255, 255, 129, 0}, // a group too many
		{254, 255, 255, 255, 255, 255, 255, 255, 255, 129, 1},
		{128, 128, 128, 128, 128, 128, 128, 128, 128, 128, 0},
		{128, 128, 128, 128, 128, 128, 128, 128, 128, 128, 1},
		{130, 128, 128, 128, 128, 128, 128, 128, 128, 128, 128, 1},
	}
	for _, n := range []int{63, 64, 65, 100, 1000} {
		wrong = append(wrong, append(bytes.Repeat([]byte{128}, n), 1), append(bytes.Repeat([]byte{128}, n), 0), bytes.Repeat([]byte{255}, n))
	}
	return wrong
}

// TestRejectsNumbers puts what is no encoding of a number in each place where there is one.
func TestRejectsNumbers(t *testing.T) {
	for _, wrong := range wrongNumbers() {
		for _, rest := range [][]byte{nil, {0}, make([]byte, 200)} {
			expectGet(t, slices.Concat(wrong, rest), nil, corrupt)
			expectGetText(t, slices.Concat(wrong, rest), nil, corrupt)
			expectGetText(t, slices.Concat([]byte{2}, wrong, rest), nil, corrupt)
		}
		expectGet(t, slices.Concat([]byte{2}, wrong), nil, corrupt)
		expectGet(t, slices.Concat([]byte{4}, wrong, []byte{6}), nil, corrupt)
		expectGet(t, slices.Concat([]byte{4, 6}, wrong), nil, corrupt)
		expectGetText(t, slices.Concat([]byte{4, 2, 97}, wrong), nil, corrupt)
	}
}

// TestRejectsLengths gives lists and strings a length that is negative, or greater than what follows.
func TestRejectsLengths(t *testing.T) {
	for _, n := range []int{-1, -2, -3, -64, -65, 4, 5, 64, 1000, math.MaxInt32, 1 << 32, 1<<32 + 3, 1<<62 + 3, math.MaxInt, math.MinInt, math.MinInt + 3} {
		length := oracleNumber(n)
		expectGet(t, length, nil, corrupt)
		expectGet(t, append(length, 0, 0, 0), nil, corrupt)
		expectGetText(t, length, nil, corrupt)
		expectGetText(t, append(length, 0, 0, 0), nil, corrupt)
		expectGetText(t, append([]byte{2}, length...), nil, corrupt)
		expectGetText(t, slices.Concat([]byte{2}, length, []byte("abc")), nil, corrupt)
		expectGetText(t, slices.Concat([]byte{4, 0}, length, []byte("abc")), nil, corrupt)
		expectGetText(t, slices.Concat([]byte{4}, length, []byte("abc"), []byte{0}), nil, corrupt)
	}
	// Enough bytes for the length of the list, but not for its elements.
	expectGet(t, []byte{4, 128, 1}, nil, corrupt)
	expectGet(t, []byte{6, 2, 128, 1}, nil, corrupt)
	expectGetText(t, []byte{4, 2, 97}, nil, corrupt)
	expectGetText(t, []byte{6, 0, 2, 97}, nil, corrupt)
	// A length that is less than what follows.
	expectGet(t, []byte{2, 2, 1}, nil, corrupt)
	expectGetText(t, []byte{2, 2, 97, 98}, nil, corrupt)
	expectGetText(t, []byte{2, 0, 0}, nil, corrupt)
}

// TestGetLimit reads the longest lists of numbers, which Put does not make, and checks that longer encodings are rejected by their size alone.
func TestGetLimit(t *testing.T) {
	b := slices.Concat(oracleNumber(api.MaxPacked-3), bytes.Repeat([]byte{3}, api.MaxPacked-3))
	expectGet(t, b, slices.Repeat([]int{-2}, api.MaxPacked-3), none)
	expectGet(t, append(b, 0), nil, tooMany)
	expectGet(t, oracleNumbers(make([]int, api.MaxPacked-2)), nil, tooMany)
	for _, fill := range []byte{0, 1, 2, 127, 128, 255} {
		b := bytes.Repeat([]byte{fill}, 10*api.MaxPacked)
		expectGet(t, b, nil, tooMany)
		expectGet(t, b[:api.MaxPacked+1], nil, tooMany)
		expectGet(t, b[:api.MaxPacked], nil, corrupt)
	}
}

func TestGetTextLimit(t *testing.T) {
	text := strings.Repeat("\xfe", api.MaxPacked-4)
	b := oracleTexts([]string{text})
	expectGetText(t, b, []string{text}, none)
	expectGetText(t, append(b, 0), nil, tooMany)
	expectGetText(t, oracleTexts([]string{text + "a"}), nil, tooMany)
	b = oracleTexts(make([]string, api.MaxPacked-3))
	expectGetText(t, b, make([]string, api.MaxPacked-3), none)
	expectGetText(t, append(b, 0), nil, tooMany)
	for _, fill := range []byte{0, 1, 2, 127, 128, 255} {
		b := bytes.Repeat([]byte{fill}, 10*api.MaxPacked)
		expectGetText(t, b, nil, tooMany)
		expectGetText(t, b[:api.MaxPacked+1], nil, tooMany)
		expectGetText(t, b[:api.MaxPacked], nil, corrupt)
	}
}

// expectOracle compares Get and GetText with the library.
func expectOracle(t *testing.T, b []byte) {
	t.Helper()
	l, fault := oracleGet(b)
	expectGet(t, b, l, fault)
	texts, fault := oracleGetText(b)
	expectGetText(t, b, texts, fault)
}

// sequences calls use with all sequences of up to n bytes of an alphabet, behind given bytes.
func sequences(front, alphabet []byte, n int, use func([]byte)) {
	use(front)
	if n == 0 {
		return
	}
	for _, next := range alphabet {
		sequences(append(bytes.Clone(front), next), alphabet, n-1, use)
	}
}

// TestGetEverything reads all encodings of up to two bytes, and all of up to six bytes that matter most.
func TestGetEverything(t *testing.T) {
	check := func(b []byte) { expectOracle(t, b) }
	all := make([]byte, 256)
	for k := range all {
		all[k] = byte(k)
	}
	sequences(nil, all, 2, check)
	sequences(nil, []byte{0, 1, 2, 3, 4, 6, 127, 128, 129, 255}, 5, check)
	sequences(nil, []byte{0, 1, 2, 4, 128, 255}, 6, check)
}

// TestGetEdited changes each encoding that is not very long by a byte that is left out, inserted or replaced.
func TestGetEdited(t *testing.T) {
	var codes [][]byte
	for _, s := range numberLists() {
		codes = append(codes, s.code)
	}
	for _, s := range textLists() {
		codes = append(codes, s.code)
	}
	for _, code := range codes {
		if len(code) > 1000 {
			continue
		}
		for k := range code {
			expectOracle(t, slices.Delete(bytes.Clone(code), k, k+1))
			for _, other := range []byte{0, 1, 2, 4, 126, 127, 128, 129, 130, 255} {
				expectOracle(t, slices.Insert(bytes.Clone(code), k, other))
				expectOracle(t, slices.Replace(bytes.Clone(code), k, k+1, other))
			}
		}
	}
}
