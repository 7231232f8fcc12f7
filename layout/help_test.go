package layout_test

import (
	"bytes"
	"math"
	"math/rand"
	"testing"

	"furrow/api"
)

// What the chapter leans on of chapter 2, worked out here from its words, bit by bit.

func step(register uint32) uint32 {
	if register&1 == 1 {
		return register>>1 ^ 0xEDB88320
	}
	return register >> 1
}

func register(b []byte) uint32 {
	r := uint32(math.MaxUint32)
	for _, x := range b {
		r ^= uint32(x)
		for range 8 {
			r = step(r)
		}
	}
	return r
}

func sum(b []byte) uint32 { return ^register(b) }

// low: n bytes of a number, least byte first.
func low(v uint64, n int) []byte {
	var b []byte
	for range n {
		b = append(b, byte(v%256))
		v /= 256
	}
	return b
}

func seal(at int, v uint32) uint64 {
	if v == 0 {
		return 0
	}
	return uint64(sum(append(low(uint64(at), 8), low(uint64(v), 4)...)))<<32 | uint64(v)
}

// join: the parts one behind the other, in new memory.
func join(parts ...[]byte) []byte { return bytes.Join(parts, nil) }

// line: the parts from a line's first byte on, zeros behind them, and the sum of all that.
func line(parts ...[]byte) api.Line {
	var l api.Line
	copy(l[:60], join(parts...))
	copy(l[60:], low(uint64(sum(l[:60])), 4))
	return l
}

func chance() *rand.Rand { return rand.New(rand.NewSource(3)) }

func anyBytes(r *rand.Rand, n int) []byte {
	b := make([]byte, n)
	r.Read(b)
	return b
}

func pick[T any](r *rand.Rand, list []T) T { return list[r.Intn(len(list))] }

// wild: numbers that are nothing good anywhere; some of them are good ones when their higher bits are cut off.
var wild = []int{-1, -2, -8, -64, -512, 1 << 31, 1<<32 + 1, 1<<32 + 5, 1<<32 + 64, 1<<32 + 2688, 1 << 62, math.MaxInt, math.MaxInt - 1, math.MaxInt - 63, math.MinInt, math.MinInt + 1, math.MinInt + 5}

// answered: whether a call answered as it must; it says what it did, if not.
func answered[T comparable](t *testing.T, what string, got T, e api.Errno, want T, f api.Errno) {
	t.Helper()
	if got != want || e != f {
		t.Errorf("%s = %+v, %v, want %+v, %v", what, got, e, want, f)
	}
}

// isData, isInode: the chapter's data pages and inodes' numbers.
func isData(page int) bool { return page >= 5 && page <= 1023 }

func isInode(ino int) bool { return ino >= 1 && ino <= 256 }
