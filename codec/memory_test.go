package codec_test

import (
	"bytes"
	"slices"
	"testing"

	"furrow/api"
	"furrow/codec"
)

// roomy: a list with spare room, all of it filled, and the whole of it.
func roomy[T any](list []T, n int) (part, whole []T) {
	whole = slices.Clone(list)
	return whole[:n], whole
}

// spoil changes all of a list and of its spare room.
func spoil[T any](list []T, v T) {
	list = list[:cap(list)]
	for i := range list {
		list[i] = v
	}
}

func TestArgumentsAreLeftAlone(t *testing.T) {
	filled := anyBytes(chance(), 300)
	b, whole := roomy(filled, 256)
	codec.Sum(b)
	codec.SumOn(5, b)
	codec.Half(b, 1)
	codec.Word(b, 1)
	codec.Words(b)
	codec.Words(b[:9])
	codec.Lines(b)
	codec.Lines(b[:72])
	if !bytes.Equal(whole, filled) {
		t.Error("bytes that were handed in are changed")
	}
	numbers := []uint64{1, 2, 3, 4}
	words, all := roomy(numbers, 2)
	codec.Bytes(words...)
	if !slices.Equal(all, numbers) {
		t.Errorf("words that were handed in are changed: %x", all)
	}
	var l api.Line
	codec.Close(l)
	if l != (api.Line{}) {
		t.Errorf("the line that was handed in is changed: %x", l)
	}
}

func TestAnswersAreNewMemory(t *testing.T) {
	filled := anyBytes(chance(), 128)
	b := slices.Clone(filled)
	words, _ := codec.Words(b)
	again, _ := codec.Words(b)
	lines, _ := codec.Lines(b)
	more, _ := codec.Lines(b)
	laid, second := codec.Bytes(words...), codec.Bytes(words...)
	spoil(words, 0)
	spoil(lines, api.Line{})
	spoil(laid, 0)
	if !bytes.Equal(b, filled) {
		t.Error("an answer shares memory with what was handed in")
	}
	if !bytes.Equal(codec.Bytes(again...), filled) || !bytes.Equal(second, filled) || !bytes.Equal(more[0][:], filled[:64]) || !bytes.Equal(more[1][:], filled[64:]) {
		t.Error("two answers share memory")
	}
}

func TestAnswersStayWhenArgumentsChange(t *testing.T) {
	b := anyBytes(chance(), 128)
	words, _ := codec.Words(b)
	lines, _ := codec.Lines(b)
	laid := codec.Bytes(words...)
	kept := slices.Clone(words)
	line := lines[1]
	spoil(b, 0)
	if !slices.Equal(words, kept) || lines[1] != line {
		t.Error("an answer changes with the bytes that were handed in")
	}
	before := slices.Clone(laid)
	spoil(words, 0)
	if !bytes.Equal(laid, before) {
		t.Error("the bytes change with the words that were handed in")
	}
}

func TestLinesAreApart(t *testing.T) {
	lines, _ := codec.Lines(make([]byte, 192))
	lines[1] = codec.Close(lines[1])
	lines[1][0] = 9
	if lines[0] != (api.Line{}) || lines[2] != (api.Line{}) {
		t.Error("what is done with one line changes another")
	}
}
