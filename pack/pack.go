// Package pack is layer 1: see shared/doc/01-pack.md.
package pack

import "math/bits"

const (
	indexBits = 24
	indexMask = 1<<indexBits - 1
	genBits   = 64 - indexBits

	// maxBytes is how many bytes the greatest number needs.
	maxBytes = 8

	digitBits = 2
	digitMask = 1<<digitBits - 1
	maxLevel  = 32/digitBits - 1
)

// Of makes a handle of an index and a generation, if both have room in it.
func Of(index int, gen uint64) (uint64, bool) {
	if index < 0 || index > indexMask || gen>>genBits != 0 {
		return 0, false
	}
	return gen<<indexBits | uint64(index), true
}

// Index is a handle's lower part.
func Index(h uint64) int {
	return int(h & indexMask)
}

// Gen is a handle's upper part.
func Gen(h uint64) uint64 {
	return h >> indexBits
}

// Next is the handle of the same index, one generation later.
func Next(h uint64) uint64 {
	// The generation stands uppermost, so what it carries over is lost: 0 follows the last one.
	return h + 1<<indexBits
}

// Zig folds a number with a sign into one without, the small ones staying small.
func Zig(n int64) uint64 {
	twice := uint64(n) << 1
	if n < 0 {
		// -2n - 1 is the complement of 2n, and so needs no number beyond 64 bits.
		return ^twice
	}
	return twice
}

// Zag unfolds what Zig folded.
func Zag(u uint64) int64 {
	half := int64(u >> 1)
	if u&1 != 0 {
		return ^half
	}
	return half
}

// Narrow wraps a number round as the kind of integer with that many bits does.
func Narrow(n int64, bits int) int64 {
	switch bits {
	case 8:
		return int64(int8(n))
	case 16:
		return int64(int16(n))
	case 32:
		return int64(int32(n))
	}
	return n
}

// Digit is the digit of i in base 4 at a place, 0 being the last one.
func Digit(i uint32, level int) int {
	if level < 0 || level > maxLevel {
		return 0
	}
	return int(i >> (digitBits * level) & digitMask)
}

// Levels is how many digits in base 4 tell n things apart.
func Levels(n int) int {
	if n < 2 {
		return 0
	}
	// The last of n things has the number n - 1; counting bits can't overflow as powers of 4 would.
	return (bits.Len(uint(n-1)) + digitBits - 1) / digitBits
}

// Bytes tells a number in as few bytes as it needs, the lowest first, behind a byte of how many these are.
func Bytes(u uint64) string {
	many := (bits.Len64(u) + 7) / 8
	var b [1 + maxBytes]byte
	b[0] = byte(many)
	switch many {
	case 8:
		b[8] = byte(u >> 56)
		fallthrough
	case 7:
		b[7] = byte(u >> 48)
		fallthrough
	case 6:
		b[6] = byte(u >> 40)
		fallthrough
	case 5:
		b[5] = byte(u >> 32)
		fallthrough
	case 4:
		b[4] = byte(u >> 24)
		fallthrough
	case 3:
		b[3] = byte(u >> 16)
		fallthrough
	case 2:
		b[2] = byte(u >> 8)
		fallthrough
	case 1:
		b[1] = byte(u)
	}
	return string(b[:1+many])
}

// Back reads what Bytes told.
func Back(s string) (uint64, bool) {
	if !isNumber(s) {
		return 0, false
	}
	var u uint64
	switch s[0] {
	case 8:
		u |= uint64(s[8]) << 56
		fallthrough
	case 7:
		u |= uint64(s[7]) << 48
		fallthrough
	case 6:
		u |= uint64(s[6]) << 40
		fallthrough
	case 5:
		u |= uint64(s[5]) << 32
		fallthrough
	case 4:
		u |= uint64(s[4]) << 24
		fallthrough
	case 3:
		u |= uint64(s[3]) << 16
		fallthrough
	case 2:
		u |= uint64(s[2]) << 8
		fallthrough
	case 1:
		u |= uint64(s[1])
	}
	return u, true
}

// isNumber says whether s is some number's Bytes.
func isNumber(s string) bool {
	if s == "" || s[0] > maxBytes || len(s) != 1+int(s[0]) {
		return false
	}
	// A highest byte of 0 would not be needed: that number's Bytes are fewer.
	return s[0] == 0 || s[len(s)-1] != 0
}
