package codec_test

import (
	"bytes"
	"encoding/binary"
	"math"
	"slices"
	"strings"
	"testing"

	"linkhouse/api"
	"linkhouse/codec"
)

// The faults of the package.
var (
	none    = api.Fault{}
	tooMany = api.Fault{Code: api.ErrTooMany, Index: -1}
	corrupt = api.Fault{Code: api.ErrCorrupt, Index: -2}
)

func expectPut(t *testing.T, l []int, want []byte, fault api.Fault) {
	t.Helper()
	got, gotFault := codec.Put(l)
	if !bytes.Equal(got, want) || gotFault != fault {
		t.Fatalf("%.99v: got %.99v %v, want %.99v %v", l, got, gotFault, want, fault)
	}
}

func expectGet(t *testing.T, b []byte, want []int, fault api.Fault) {
	t.Helper()
	got, gotFault := codec.Get(b)
	if !slices.Equal(got, want) || gotFault != fault {
		t.Fatalf("%.99v: got %.99v %v, want %.99v %v", b, got, gotFault, want, fault)
	}
}

func expectPutText(t *testing.T, l []string, want []byte, fault api.Fault) {
	t.Helper()
	got, gotFault := codec.PutText(l)
	if !bytes.Equal(got, want) || gotFault != fault {
		t.Fatalf("%.99q: got %.99v %v, want %.99v %v", l, got, gotFault, want, fault)
	}
}

func expectGetText(t *testing.T, b []byte, want []string, fault api.Fault) {
	t.Helper()
	got, gotFault := codec.GetText(b)
	if !slices.Equal(got, want) || gotFault != fault {
		t.Fatalf("%.99v: got %.99q %v, want %.99q %v", b, got, gotFault, want, fault)
	}
}

// number is a number with its encoding.
type number struct {
	n    int
	code []byte
}

// numbers are encoded by hand after R4.1: the borders between one group and two, and so on, and the ends of int.
func numbers() []number {
	return []number{
		{0, []byte{0}},
		{-1, []byte{1}},
		{1, []byte{2}},
		{-2, []byte{3}},
		{2, []byte{4}},
		{63, []byte{126}},
		{-64, []byte{127}},
		{64, []byte{128, 1}},
		{-65, []byte{129, 1}},
		{127, []byte{254, 1}},
		{-128, []byte{255, 1}},
		{128, []byte{128, 2}},
		{-129, []byte{129, 2}},
		{300, []byte{216, 4}},
		{8191, []byte{254, 127}},
		{-8192, []byte{255, 127}},
		{8192, []byte{128, 128, 1}},
		{-8193, []byte{129, 128, 1}},
		{1<<20 - 1, []byte{254, 255, 127}},
		{-1 << 20, []byte{255, 255, 127}},
		{1 << 20, []byte{128, 128, 128, 1}},
		{-1<<20 - 1, []byte{129, 128, 128, 1}},
		{math.MaxInt32, []byte{254, 255, 255, 255, 15}},
		{math.MinInt32, []byte{255, 255, 255, 255, 15}},
		{math.MaxUint32, []byte{254, 255, 255, 255, 31}},
		{1 << 32, []byte{128, 128, 128, 128, 32}},
		{1<<62 - 1, []byte{254, 255, 255, 255, 255, 255, 255, 255, 127}},
		{-1 << 62, []byte{255, 255, 255, 255, 255, 255, 255, 255, 127}},
		{1 << 62, []byte{128, 128, 128, 128, 128, 128, 128, 128, 128, 1}},
		{-1<<62 - 1, []byte{129, 128, 128, 128, 128, 128, 128, 128, 128, 1}},
		{math.MaxInt, []byte{254, 255, 255, 255, 255, 255, 255, 255, 255, 1}},
		{math.MaxInt - 1, []byte{252, 255, 255, 255, 255, 255, 255, 255, 255, 1}},
		{math.MinInt, []byte{255, 255, 255, 255, 255, 255, 255, 255, 255, 1}},
		{math.MinInt + 1, []byte{253, 255, 255, 255, 255, 255, 255, 255, 255, 1}},
	}
}

// numberList is a list of numbers with its encoding.
type numberList struct {
	l    []int
	code []byte
}

// numberLists are lists whose lengths have one group and two, and all numbers, one by one and together.
func numberLists() []numberList {
	lists := []numberList{
		{nil, []byte{0}},
		{[]int{1, -1}, []byte{4, 2, 1}},
		{[]int{0, 64, -65, 5}, []byte{8, 0, 128, 1, 129, 1, 10}},
		{make([]int, 63), append([]byte{126}, make([]byte, 63)...)},
		{make([]int, 64), append([]byte{128, 1}, make([]byte, 64)...)},
		{make([]int, 8192), append([]byte{128, 128, 1}, make([]byte, 8192)...)},
	}
	together := numberList{code: []byte{byte(2 * len(numbers()))}}
	for _, s := range numbers() {
		lists = append(lists, numberList{[]int{s.n}, append([]byte{2}, s.code...)})
		together.l = append(together.l, s.n)
		together.code = append(together.code, s.code...)
	}
	return append(lists, together)
}

// textList is a list of strings with its encoding.
type textList struct {
	l    []string
	code []byte
}

// textLists are encoded by hand after R4.1: lengths of one group and more, and strings of all kinds of bytes, which need not be UTF-8.
func textLists() []textList {
	long := strings.Repeat("\xff", 8192)
	return []textList{
		{nil, []byte{0}},
		{[]string{""}, []byte{2, 0}},
		{[]string{"", "", ""}, []byte{6, 0, 0, 0}},
		{[]string{"ab"}, []byte{2, 4, 97, 98}},
		{[]string{"a", "", "bc"}, []byte{6, 2, 97, 0, 4, 98, 99}},
		{[]string{"\x00", "\x00\x00"}, []byte{4, 2, 0, 4, 0, 0}},
		{[]string{"\u00e4\u20ac"}, []byte{2, 10, 195, 164, 226, 130, 172}},
		{[]string{"\xff\xfe", "\x80", "\xc3", "\xed\xa0\x80"}, []byte{8, 4, 255, 254, 2, 128, 2, 195, 6, 237, 160, 128}},
		{[]string{"\ufffd"}, []byte{2, 6, 239, 191, 189}},
		{[]string{long[:63], "x"}, slices.Concat([]byte{4, 126}, []byte(long[:63]), []byte{2, 120})},
		{[]string{long[:64], "x"}, slices.Concat([]byte{4, 128, 1}, []byte(long[:64]), []byte{2, 120})},
		{[]string{long[:8191]}, slices.Concat([]byte{2, 254, 127}, []byte(long[:8191]))},
		{[]string{long}, slices.Concat([]byte{2, 128, 128, 1}, []byte(long))},
		{make([]string, 64), append([]byte{128, 1}, make([]byte, 64)...)},
	}
}

// oracleNumber encodes a number with the library, whose encoding of numbers is that of R4.1.
func oracleNumber(n int) []byte { return binary.AppendVarint(nil, int64(n)) }

func oracleNumbers(l []int) []byte {
	b := oracleNumber(len(l))
	for _, n := range l {
		b = append(b, oracleNumber(n)...)
	}
	return b
}

func oracleTexts(l []string) []byte {
	b := oracleNumber(len(l))
	for _, s := range l {
		b = append(append(b, oracleNumber(len(s))...), s...)
	}
	return b
}

// oracleGet reads numbers with the library, and accepts them only if they have this encoding.
func oracleGet(b []byte) ([]int, api.Fault) {
	var l []int
	count, size := binary.Varint(b)
	for at := size; size > 0 && at < len(b); at += size {
		var n int64
		n, size = binary.Varint(b[at:])
		l = append(l, int(n))
	}
	if size <= 0 || int(count) != len(l) || !bytes.Equal(oracleNumbers(l), b) {
		return nil, corrupt
	}
	return l, none
}

// oracleGetText reads strings with the library, and accepts them only if they have this encoding.
func oracleGetText(b []byte) ([]string, api.Fault) {
	var l []string
	count, size := binary.Varint(b)
	for at := size; size > 0 && at < len(b); {
		var n int64
		n, size = binary.Varint(b[at:])
		if at += size; size <= 0 || n < 0 || n > int64(len(b)-at) {
			return nil, corrupt
		}
		l = append(l, string(b[at:at+int(n)]))
		at += int(n)
	}
	if size <= 0 || int(count) != len(l) || !bytes.Equal(oracleTexts(l), b) {
		return nil, corrupt
	}
	return l, none
}
