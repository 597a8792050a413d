package codec_test

import (
	"bytes"
	"slices"
	"testing"

	"linkhouse/codec"
)

// TestNoAliasing checks that arguments, with their spare capacity, stay as they are, and that results are new memory.
func TestNoAliasing(t *testing.T) {
	numbers := []int{1, -1, 77}[:2]
	texts := []string{"ab", "", "c"}[:2]
	numbersCode := []byte{4, 2, 1, 66}[:3]
	textsCode := []byte{4, 4, 97, 98, 0, 66}[:5]
	put, _ := codec.Put(numbers)
	putText, _ := codec.PutText(texts)
	get, _ := codec.Get(numbersCode)
	getText, _ := codec.GetText(textsCode)
	if !bytes.Equal(put, numbersCode) || !bytes.Equal(putText, textsCode) || !slices.Equal(get, numbers) || !slices.Equal(getText, texts) {
		t.Fatalf("got %v, %v, %v, %q", put, putText, get, getText)
	}
	clear(put[:cap(put)])
	clear(putText[:cap(putText)])
	clear(get[:cap(get)])
	expectPut(t, numbers, []byte{4, 2, 1}, none)
	expectPutText(t, texts, []byte{4, 4, 97, 98, 0}, none)
	expectGet(t, numbersCode, []int{1, -1}, none)
	if !slices.Equal(numbers[:3], []int{1, -1, 77}) || !slices.Equal(texts[:3], []string{"ab", "", "c"}) {
		t.Error("a list has changed")
	}
	if !bytes.Equal(numbersCode[:4], []byte{4, 2, 1, 66}) || !bytes.Equal(textsCode[:6], []byte{4, 4, 97, 98, 0, 66}) {
		t.Error("an encoding has changed")
	}
	clear(textsCode)
	if !slices.Equal(getText, []string{"ab", ""}) {
		t.Errorf("strings share the memory of their encoding: %q", getText)
	}
}

// TestFaultsHaveNoResults checks that a fault comes with nil only, where reading had begun.
func TestFaultsHaveNoResults(t *testing.T) {
	for _, b := range [][]byte{{}, {0, 0}, {2}, {4, 2}, {4, 2, 128}, {2, 2, 2, 2}} {
		if l, fault := codec.Get(b); l != nil || fault != corrupt {
			t.Errorf("Get of %v: got %v %v", b, l, fault)
		}
		if l, fault := codec.GetText(b); l != nil || fault != corrupt {
			t.Errorf("GetText of %v: got %q %v", b, l, fault)
		}
	}
}
