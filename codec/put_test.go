package codec_test

import (
	"math"
	"slices"
	"strings"
	"testing"

	"linkhouse/api"
)

func TestPut(t *testing.T) {
	for _, s := range numberLists() {
		expectPut(t, s.l, s.code, none)
	}
	expectPut(t, []int{}, []byte{0}, none)
}

// TestPutManyNumbers compares with the library: all numbers of up to two groups, and the numbers near all powers of two.
func TestPutManyNumbers(t *testing.T) {
	for n := -1 << 14; n <= 1<<14; n++ {
		expectPut(t, []int{n}, oracleNumbers([]int{n}), none)
	}
	for shift := range 64 {
		for near := -3; near <= 3; near++ {
			n := 1<<shift + near
			expectPut(t, []int{n, -n, ^n}, oracleNumbers([]int{n, -n, ^n}), none)
		}
	}
}

func TestPutLimit(t *testing.T) {
	for _, n := range []int{0, -1, math.MaxInt, math.MinInt} {
		l := slices.Repeat([]int{n}, api.MaxFile+1)
		expectPut(t, l[:api.MaxFile], oracleNumbers(l[:api.MaxFile]), none)
		expectPut(t, l, nil, tooMany)
	}
	expectPut(t, make([]int, 10*api.MaxFile), nil, tooMany)
}

func TestPutText(t *testing.T) {
	for _, s := range textLists() {
		expectPutText(t, s.l, s.code, none)
	}
	expectPutText(t, []string{}, []byte{0}, none)
}

func TestPutTextLengths(t *testing.T) {
	text := strings.Repeat("\x00\xff\x80", 100)
	for n := range len(text) + 1 {
		l := []string{text[n:], "", text[:n]}
		expectPutText(t, l, oracleTexts(l), none)
	}
	for n := range 300 {
		l := slices.Repeat([]string{"\xff"}, n)
		expectPutText(t, l, oracleTexts(l), none)
	}
}

// TestPutTextLimit checks that the number of strings is limited, and not that of bytes.
func TestPutTextLimit(t *testing.T) {
	for _, text := range []string{"", "a", "abcd"} {
		l := slices.Repeat([]string{text}, api.MaxFile+1)
		expectPutText(t, l[:api.MaxFile], oracleTexts(l[:api.MaxFile]), none)
		expectPutText(t, l, nil, tooMany)
	}
	long := []string{strings.Repeat("a", api.MaxPacked+1), strings.Repeat("b", api.MaxFile+1)}
	expectPutText(t, long, oracleTexts(long), none)
}
