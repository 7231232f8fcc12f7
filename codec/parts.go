package codec

import "furrow/api"

const polynomial = 0xEDB88320 // reflected: its lowest bit stands for the highest power

// steps: what eight shifts make of each low byte of the register. Worked out when the program starts, since the definition is short and 256 numbers aren't.
var steps = eightShifts()

func eightShifts() [256]uint32 {
	var table [256]uint32
	for i := range table {
		register := uint32(i)
		for range 8 {
			register = shift(register)
		}
		table[i] = register
	}
	return table
}

func shift(register uint32) uint32 {
	if register&1 == 1 {
		return register>>1 ^ polynomial
	}
	return register >> 1
}

// holds: whether n bytes from place at on all lie in b. It subtracts where it could add: a sum of great numbers would wrap round.
func holds(b []byte, at, n int) bool { return at >= 0 && at <= len(b)-n }

// number: what at most eight bytes say, least byte first.
func number(b []byte) uint64 {
	var v uint64
	for i, x := range b {
		v |= uint64(x) << (8 * i)
	}
	return v
}

// spread: a word's bytes, least byte first, as a value: whoever takes it may do with it what it likes.
func spread(w uint64) [api.WordSize]byte {
	var eight [api.WordSize]byte
	for i := range eight {
		eight[i] = byte(w >> (8 * i))
	}
	return eight
}
