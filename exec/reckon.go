package exec

import (
	"athanor/api"
	"athanor/nums"
)

// loadWord pushes what bytes of the memory make.
func (r *run) loadWord(x *api.Instr) {
	size := wordSize(x.Op)
	v, ok := r.memory.Load(r.pop()+uint64(x.B), size)
	if !ok {
		panic(trap(api.TrapBounds))
	}
	r.push(filled(x.Op, v, size))
}

// storeWord puts the lower bytes of a value into the memory.
func (r *run) storeWord(x *api.Instr) {
	v := r.pop()
	if !r.memory.Store(r.pop()+uint64(x.B), wordSize(x.Op), v) {
		panic(trap(api.TrapBounds))
	}
}

// wordSize is how many bytes a load reads or a store writes.
func wordSize(op int) int {
	switch op {
	case 0x2c, 0x2d, 0x30, 0x31, 0x3a, 0x3c:
		return 1
	case 0x2e, 0x2f, 0x32, 0x33, 0x3b, 0x3d:
		return 2
	case 0x29, 0x37:
		return 8
	}
	return 4
}

// filled is the value that a load makes of as many bytes: what is ahead of them is their sign, or 0.
func filled(op int, v uint64, size int) uint64 {
	switch op {
	case 0x2c, 0x2e:
		return nums.Value(signed(v, size), api.I32)
	case 0x30, 0x32, 0x34:
		return nums.Value(signed(v, size), api.I64)
	}
	return v
}

// signed is the number that bytes are in two's complement.
func signed(v uint64, size int) int {
	ahead := 64 - 8*size
	return int(v<<ahead) >> ahead
}

// reckon does what only reckons.
func (r *run) reckon(op int) {
	last := r.pop()
	if v, ok := nums.Unary(op, last); ok {
		r.push(v)
		return
	}
	v, why, _ := nums.Binary(op, r.pop(), last)
	if why != 0 {
		panic(trap(why))
	}
	r.push(v)
}
