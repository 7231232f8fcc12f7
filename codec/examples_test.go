package codec_test

import (
	"bytes"
	"testing"

	"furrow/api"
	"furrow/codec"
)

func TestExample1(t *testing.T) {
	if s := codec.Sum([]byte("123456789")); s != 0xCBF43926 {
		t.Errorf("%#x", s)
	}
	if s := codec.Sum(nil); s != 0 {
		t.Errorf("%#x", s)
	}
}

func TestExample2(t *testing.T) {
	b := []byte{1, 2, 3, 4, 5}
	for _, c := range []struct {
		at   int
		want uint32
		e    api.Errno
	}{{1, 0x05040302, api.OK}, {2, 0, api.ErrShort}, {-1, 0, api.ErrShort}} {
		if v, e := codec.Half(b, c.at); v != c.want || e != c.e {
			t.Errorf("at %d: %#x, %v", c.at, v, e)
		}
	}
}

func TestExample3(t *testing.T) {
	want := []byte{8, 7, 6, 5, 4, 3, 2, 1, 9, 0, 0, 0, 0, 0, 0, 0}
	if b := codec.Bytes(0x0102030405060708, 9); !bytes.Equal(b, want) {
		t.Errorf("%x", b)
	}
}

func TestExample4(t *testing.T) {
	if words, e := codec.Words(make([]byte, 9)); words != nil || e != api.ErrShort {
		t.Errorf("%x, %v", words, e)
	}
	if lines, e := codec.Lines(make([]byte, 128)); len(lines) != 2 || e != api.OK {
		t.Errorf("%x, %v", lines, e)
	}
	if lines, e := codec.Lines(make([]byte, 72)); lines != nil || e != api.ErrShort {
		t.Errorf("%x, %v", lines, e)
	}
}

func TestExample5(t *testing.T) {
	w := codec.Seal(8, 5)
	unseals(t, 8, 0, 0, api.OK)
	unseals(t, 8, 0x0000000100000000, 0, api.ErrSeal)
	unseals(t, 8, w, 5, api.OK)
	unseals(t, 16, w, 0, api.ErrSeal)
	unseals(t, 8, w^1, 0, api.ErrSeal)
}

func TestExample6(t *testing.T) {
	check := defined([]byte{0, 0, 0, 0, 0, 0, 0, 0, 1, 0, 0, 0})
	if w := codec.Seal(0, 1); uint32(w>>32) != check || uint32(w) != 1 {
		t.Errorf("%#x, want the check %#x", w, check)
	}
}
