// Package varint is layer 1: numbers in as few bytes as they need: see shared/doc/01-varint.md.
package varint

import (
	"math"
	"math/bits"

	"pilaster/api"
)

const (
	digit    = 7    // bits of the number in a byte
	low      = 0x7f // those bits
	more     = 0x80 // set in each byte but the last
	maxBytes = 10   // what 64 bits need
)

// Put lays a number behind bytes, Take takes one off their front.
func Put(b []byte, x uint64) []byte {
	n := size(x)
	// New memory, even if b has spare room: that room is the caller's.
	out := make([]byte, len(b)+n)
	copy(out, b)
	tail := out[len(b):]
	for i := range n - 1 {
		tail[i] = byte(x) | more
		x >>= digit
	}
	tail[n-1] = byte(x)
	return out
}

func Take(b []byte) (uint64, []byte, api.Errno) {
	var x uint64
	for i := range min(len(b), maxBytes) {
		c := b[i]
		x |= uint64(c&low) << (digit * i)
		if c&more != 0 {
			continue
		}
		if !mayEnd(i, c) {
			return 0, nil, api.ErrCorrupt
		}
		return x, append([]byte(nil), b[i+1:]...), api.OK
	}
	return 0, nil, api.ErrCorrupt
}

// size tells how many bytes x needs; 0 needs one, as 1 does.
func size(x uint64) int {
	return (bits.Len64(x|1) + digit - 1) / digit
}

// mayEnd tells whether a number's last byte may be c at place i: each number
// has just one form, and the tenth byte has room for the 64th bit alone.
func mayEnd(i int, c byte) bool {
	if i == maxBytes-1 {
		return c == 1
	}
	return c != 0 || i == 0
}

// Zig makes a number one that is not below 0, Zag makes it back.
func Zig(x int) uint64 {
	u := uint64(x) << 1
	if x < 0 {
		// ^u is -2x - 1, and of the least number, too, it does not overflow.
		return ^u
	}
	return u
}

func Zag(u uint64) int {
	half := int(u >> 1)
	if u&1 != 0 {
		return ^half
	}
	return half
}

// PutInt and TakeInt are of numbers with a sign, or without.
func PutInt(b []byte, x int, signed bool) []byte {
	if signed {
		return Put(b, Zig(x))
	}
	return Put(b, uint64(x))
}

func TakeInt(b []byte, signed bool) (int, []byte, api.Errno) {
	u, rest, e := Take(b)
	if e != api.OK {
		return 0, nil, e
	}
	if signed {
		return Zag(u), rest, api.OK
	}
	if u > math.MaxInt {
		return 0, nil, api.ErrCorrupt
	}
	return int(u), rest, api.OK
}
