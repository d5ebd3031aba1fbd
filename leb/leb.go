// Package leb is layer 1: numbers in groups of seven bits (chapter 1 of the document).
package leb

import (
	"math"

	"athanor/api"
)

const (
	groupBits = 7
	groupMask = 1<<groupBits - 1
	moreBit   = 1 << groupBits // a byte that has it is not the last
	signBit   = 1 << (groupBits - 1)

	// Ten groups are seventy bits: only the lowest bit of the tenth is within 64.
	fullGroups = 10
)

// PutU tells the bytes of n.
func PutU(n uint64) string {
	return put(func() (byte, bool) {
		group := byte(n & groupMask)
		n >>= groupBits
		return group, n == 0
	})
}

// PutS tells the bytes of n, with its sign.
func PutS(n int64) string {
	return put(func() (byte, bool) {
		group := byte(n & groupMask)
		n >>= groupBits
		// What is left must be what the sign of this group goes on to, or the reader would take another number.
		if group&signBit == 0 {
			return group, n == 0
		}
		return group, n == -1
	})
}

// put gathers the groups that next takes, up to the one that it calls the last.
func put(next func() (group byte, last bool)) string {
	var out []byte
	for {
		group, last := next()
		if last {
			return string(append(out, group))
		}
		out = append(out, group|moreBit)
	}
}

// U reads a number without sign, of 32 or 64 bits, from the place at on, and tells the place behind it.
func U(s string, at, bits int) (uint64, int, api.Errno) {
	r, err := read(s, at, bits)
	if err != api.OK {
		return 0, 0, err
	}
	if bits == 32 && r.low > math.MaxUint32 || r.count == fullGroups && r.last > 1 {
		return 0, 0, api.ErrLeb
	}
	return r.low, at + r.count, api.OK
}

// S reads a number with its sign, of 32 or 64 bits, from the place at on, and tells the place behind it.
func S(s string, at, bits int) (int64, int, api.Errno) {
	r, err := read(s, at, bits)
	if err != api.OK {
		return 0, 0, err
	}
	n := r.signed()
	if bits == 32 && (n < math.MinInt32 || n > math.MaxInt32) {
		return 0, 0, api.ErrLeb
	}
	if r.count == fullGroups && r.last != 0 && r.last != groupMask {
		return 0, 0, api.ErrLeb
	}
	return n, at + r.count, api.OK
}

// reading is the groups of one number: their lowest 64 bits, how many they are, and the last of them.
type reading struct {
	low   uint64
	count int
	last  byte
}

// signed is the number with the last group's sign going on above it.
func (r reading) signed() int64 {
	low := r.low
	if r.last&signBit != 0 && r.count < fullGroups {
		low |= ^uint64(0) << (groupBits * r.count)
	}
	return int64(low)
}

// read gathers the groups of one number of that many bits.
func read(s string, at, bits int) (reading, api.Errno) {
	if bits != 32 && bits != 64 || at < 0 || at > len(s) {
		return reading{}, api.ErrArg
	}
	next := groups(s[at:])
	var r reading
	for r.count < mostGroups(bits) {
		group, last, ok := next()
		if !ok {
			return reading{}, api.ErrLeb
		}
		r.low |= uint64(group) << (groupBits * r.count)
		r.count++
		if last {
			r.last = group
			return r, api.OK
		}
	}
	return reading{}, api.ErrLeb
}

// groups answers what takes the next group of s; it is not ok where s has ended.
func groups(s string) func() (group byte, last, ok bool) {
	at := 0
	return func() (byte, bool, bool) {
		if at == len(s) {
			return 0, false, false
		}
		b := s[at]
		at++
		return b & groupMask, b < moreBit, true
	}
}

// mostGroups is how many groups a number of that many bits needs at most.
func mostGroups(bits int) int {
	return (bits + groupBits - 1) / groupBits
}
