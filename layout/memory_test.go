package layout_test

import (
	"bytes"
	"slices"
	"testing"

	"furrow/api"
	"furrow/layout"
)

// spoil changes all of a list and of its spare room.
func spoil[T any](list []T, v T) {
	list = list[:cap(list)]
	for i := range list {
		list[i] = v
	}
}

func TestArgumentsAreLeftAlone(t *testing.T) {
	r := chance()
	l := lineOf(api.Super{Pages: 24, Inodes: 8, Cores: 1})
	list := undos(everyAt()[:20]...)
	saved := api.Saved{Stamp: 7, Spans: apart(300)}
	img, pg, rec := join(image(24*512, l, l), anyBytes(r, 99)), join(page(undoBytes(list[:3])), anyBytes(r, 99)), join(savedRecord(goodRecords[5]), anyBytes(r, 99))
	list0, spans0, img0, pg0, rec0 := slices.Clone(list), slices.Clone(saved.Spans), bytes.Clone(img), bytes.Clone(pg), bytes.Clone(rec)
	layout.PackUndo(list[:3])
	layout.PackUndo(list)
	layout.PackSaved(api.Saved{Stamp: 7, Spans: saved.Spans[:9]})
	layout.PackSaved(saved)
	layout.FindSuper(img[:24*512])
	layout.FindSuper(img)
	layout.OpenUndo(pg[:512])
	layout.OpenUndo(pg)
	layout.OpenSaved(rec)
	layout.OpenSaved(rec[:30])
	if !slices.Equal(list, list0) || !slices.Equal(saved.Spans, spans0) || !bytes.Equal(img, img0) || !bytes.Equal(pg, pg0) || !bytes.Equal(rec, rec0) {
		t.Error("a list that was handed in is changed")
	}
}

func TestAnswersAreNewMemory(t *testing.T) {
	list, saved := undos(everyAt()[:3]...), goodRecords[5]
	pg, rec := page(undoBytes(list)), savedRecord(saved)
	one, _ := layout.OpenUndo(pg)
	two, _ := layout.OpenUndo(pg)
	first, _ := layout.OpenSaved(rec)
	second, _ := layout.OpenSaved(rec)
	b, _ := layout.PackUndo(list)
	c, _ := layout.PackUndo(list)
	d, _ := layout.PackSaved(saved)
	e, _ := layout.PackSaved(saved)
	spoil(one, api.Undo{})
	spoil(first.Spans, api.Span{})
	spoil(b, 0xEE)
	spoil(d, 0xEE)
	if !slices.Equal(two, list) || !slices.Equal(second.Spans, saved.Spans) || !bytes.Equal(c, undoBytes(list)) || !bytes.Equal(e, rec) {
		t.Error("two answers share memory, or an answer shares it with an argument")
	}
	if !bytes.Equal(pg, page(undoBytes(list))) || !bytes.Equal(rec, savedRecord(saved)) {
		t.Error("an answer shares memory with the bytes that were read")
	}
}

func TestAnswersStayWhenArgumentsChange(t *testing.T) {
	list, saved := undos(everyAt()[:3]...), api.Saved{Stamp: 7, Spans: slices.Clone(goodRecords[5].Spans)}
	b, _ := layout.PackUndo(list)
	c, _ := layout.PackSaved(saved)
	kept, bytesKept := undoBytes(list), savedRecord(saved)
	pg, rec := page(b), bytes.Clone(c)
	got, _ := layout.OpenUndo(pg)
	back, _ := layout.OpenSaved(rec)
	gotKept, backKept := slices.Clone(got), slices.Clone(back.Spans)
	spoil(list, api.Undo{})
	spoil(saved.Spans, api.Span{})
	spoil(pg, 1)
	spoil(rec, 1)
	if !bytes.Equal(b, kept) || !bytes.Equal(c, bytesKept) || !slices.Equal(got, gotKept) || !slices.Equal(back.Spans, backKept) {
		t.Error("an answer changes with what was handed in")
	}
}
