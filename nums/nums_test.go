package nums

import (
	"math"
	"math/big"
	"slices"
	"sync"
	"testing"

	"athanor/api"
)

// rule is what the chapter's table says of an instruction: the types, and what it tells of numbers of any size (with signs: sa, sb; without: a, b).
type rule struct {
	op      int
	takes   []int
	tells   int
	reckons func(a, b, sa, sb *big.Int) (*big.Int, int)
}

// number is a big.Int of n.
func number(n uint64) *big.Int { return new(big.Int).SetUint64(n) }

// power is 2 to the power n.
func power(n uint) *big.Int { return new(big.Int).Lsh(big.NewInt(1), n) }

// bitsOf is how many bits a value of that type has.
func bitsOf(typ int) uint { return map[int]uint{api.I32: 32, api.I64: 64}[typ] }

// within is n modulo 2^32 or 2^64.
func within(n *big.Int, typ int) *big.Int {
	return new(big.Int).Mod(n, power(bitsOf(typ)))
}

// signedOf is the number whose two's complement n, of that type, is.
func signedOf(n *big.Int, typ int) *big.Int {
	if n.Cmp(power(bitsOf(typ)-1)) < 0 {
		return n
	}
	return new(big.Int).Sub(n, power(bitsOf(typ)))
}

// yes is 1 or 0.
func yes(holds bool) (*big.Int, int) {
	if holds {
		return big.NewInt(1), 0
	}
	return new(big.Int), 0
}

// comparisonRules are the rules of 46 to 4f, or 51 to 5a.
func comparisonRules(first, typ int) []rule {
	holds := []func(unsigned, signed int) bool{
		func(u, _ int) bool { return u == 0 }, func(u, _ int) bool { return u != 0 },
		func(_, s int) bool { return s < 0 }, func(u, _ int) bool { return u < 0 },
		func(_, s int) bool { return s > 0 }, func(u, _ int) bool { return u > 0 },
		func(_, s int) bool { return s <= 0 }, func(u, _ int) bool { return u <= 0 },
		func(_, s int) bool { return s >= 0 }, func(u, _ int) bool { return u >= 0 },
	}
	var out []rule
	for i, h := range holds {
		out = append(out, rule{first + i, []int{typ, typ}, api.I32, func(a, b, sa, sb *big.Int) (*big.Int, int) {
			return yes(h(a.Cmp(b), sa.Cmp(sb)))
		}})
	}
	return out
}

// countRules are the rules of 67 to 69, or 79 to 7b: the bits are looked at one by one.
func countRules(first, typ int) []rule {
	w := int(bitsOf(typ))
	count := func(a *big.Int, from, step int) *big.Int {
		n := 0
		for at := from; at >= 0 && at < w && a.Bit(at) == 0; at += step {
			n++
		}
		return big.NewInt(int64(n))
	}
	return []rule{
		{first, []int{typ}, typ, func(a, _, _, _ *big.Int) (*big.Int, int) { return count(a, w-1, -1), 0 }},
		{first + 1, []int{typ}, typ, func(a, _, _, _ *big.Int) (*big.Int, int) { return count(a, 0, 1), 0 }},
		{first + 2, []int{typ}, typ, func(a, _, _, _ *big.Int) (*big.Int, int) {
			n := int64(0)
			for at := range w {
				n += int64(a.Bit(at))
			}
			return big.NewInt(n), 0
		}},
	}
}

// divisionRules are the rules of 6d to 70, or 7f to 82.
func divisionRules(first, typ int) []rule {
	guard := func(f func(a, b *big.Int) *big.Int) func(a, b *big.Int) (*big.Int, int) {
		return func(a, b *big.Int) (*big.Int, int) {
			if b.Sign() == 0 {
				return new(big.Int), api.TrapDivide
			}
			return f(a, b), 0
		}
	}
	quotient := guard(func(a, b *big.Int) *big.Int { return new(big.Int).Quo(a, b) })
	rest := guard(func(a, b *big.Int) *big.Int { return new(big.Int).Rem(a, b) })
	two := []int{typ, typ}
	return []rule{
		{first, two, typ, func(_, _, sa, sb *big.Int) (*big.Int, int) {
			q, trap := quotient(sa, sb)
			if q.Cmp(power(bitsOf(typ)-1)) == 0 {
				return new(big.Int), api.TrapOver
			}
			return q, trap
		}},
		{first + 1, two, typ, func(a, b, _, _ *big.Int) (*big.Int, int) { return quotient(a, b) }},
		{first + 2, two, typ, func(_, _, sa, sb *big.Int) (*big.Int, int) { return rest(sa, sb) }},
		{first + 3, two, typ, func(a, b, _, _ *big.Int) (*big.Int, int) { return rest(a, b) }},
	}
}

// moveRules are the rules of 74 to 78, or 86 to 8a.
func moveRules(first, typ int) []rule {
	w := bitsOf(typ)
	by := func(b *big.Int) uint { return uint(new(big.Int).Mod(b, number(uint64(w))).Uint64()) }
	left := func(a *big.Int, n uint) *big.Int { return new(big.Int).Mul(a, power(n)) }
	// Div goes down, as a move right of a number below 0 does.
	right := func(a *big.Int, n uint) *big.Int { return new(big.Int).Div(a, power(n)) }
	turned := func(a *big.Int, n uint) *big.Int {
		out := new(big.Int)
		for at := range w {
			out.SetBit(out, int((at+n)%w), a.Bit(int(at)))
		}
		return out
	}
	two := []int{typ, typ}
	return []rule{
		{first, two, typ, func(a, b, _, _ *big.Int) (*big.Int, int) { return left(a, by(b)), 0 }},
		{first + 1, two, typ, func(_, b, sa, _ *big.Int) (*big.Int, int) { return right(sa, by(b)), 0 }},
		{first + 2, two, typ, func(a, b, _, _ *big.Int) (*big.Int, int) { return right(a, by(b)), 0 }},
		{first + 3, two, typ, func(a, b, _, _ *big.Int) (*big.Int, int) { return turned(a, by(b)), 0 }},
		{first + 4, two, typ, func(a, b, _, _ *big.Int) (*big.Int, int) { return turned(a, w-by(b)), 0 }},
	}
}

// plainRules are the rules of six instructions that ask nothing of the width: +, -, * from first on, and, or, exclusive or from the seventh behind it on.
func plainRules(first, typ int) []rule {
	type big3 = func(z, a, b *big.Int) *big.Int
	var out []rule
	for at, f := range map[int]big3{0: (*big.Int).Add, 1: (*big.Int).Sub, 2: (*big.Int).Mul, 7: (*big.Int).And, 8: (*big.Int).Or, 9: (*big.Int).Xor} {
		out = append(out, rule{first + at, []int{typ, typ}, typ, func(a, b, _, _ *big.Int) (*big.Int, int) { return f(new(big.Int), a, b), 0 }})
	}
	return out
}

// table is the chapter's table, by bytes.
func table() map[int]rule {
	zero := func(a, _, _, _ *big.Int) (*big.Int, int) { return yes(a.Sign() == 0) }
	same := func(a, _, _, _ *big.Int) (*big.Int, int) { return a, 0 }
	signed := func(_, _, sa, _ *big.Int) (*big.Int, int) { return sa, 0 }
	one32, one64 := []int{api.I32}, []int{api.I64}
	list := slices.Concat(
		[]rule{{0x45, one32, api.I32, zero}, {0x50, one64, api.I32, zero}},
		comparisonRules(0x46, api.I32), comparisonRules(0x51, api.I64),
		countRules(0x67, api.I32), countRules(0x79, api.I64),
		plainRules(0x6a, api.I32), plainRules(0x7c, api.I64),
		divisionRules(0x6d, api.I32), divisionRules(0x7f, api.I64),
		moveRules(0x74, api.I32), moveRules(0x86, api.I64),
		[]rule{{0xa7, one64, api.I32, same}, {0xac, one32, api.I64, signed}, {0xad, one32, api.I64, same}},
	)
	out := map[int]rule{}
	for _, r := range list {
		out[r.op] = r
	}
	return out
}

// wanted is what the rule tells of a and b.
func (r rule) wanted(a, b uint64) (uint64, int) {
	typ := r.takes[0]
	na, nb := within(number(a), typ), within(number(b), typ)
	v, trap := r.reckons(na, nb, signedOf(na, typ), signedOf(nb, typ))
	return within(v, r.tells).Uint64(), trap
}

// check holds an instruction against its rule, in both calls.
func (r rule) check(t *testing.T, a, b uint64) {
	t.Helper()
	one := len(r.takes) == 1
	want, wantTrap := r.wanted(a, b)
	v, ok := Unary(r.op, a)
	if one && (v != want || !ok) || !one && (v != 0 || ok) {
		t.Errorf("Unary(%#x, %#x): %#x, %v", r.op, a, v, ok)
	}
	v, trap, ok := Binary(r.op, a, b)
	if !one && (v != want || trap != wantTrap || !ok) || one && (v != 0 || trap != 0 || ok) {
		t.Errorf("Binary(%#x, %#x, %#x): %#x, %d, %v", r.op, a, b, v, trap, ok)
	}
}

// edges are the values at which widths, signs and counts begin and end, with bits above the lower 32 among them.
func edges() []uint64 {
	out := []uint64{0, 1, 2, 3, 5, 7, 10, 30, 31, 32, 33, 34, 62, 63, 64, 65, 66, 95, 96, 97, 127, 128, 0x12345678, 0xdeadbeef, 0x123456789abcdef0, 0xfedcba9876543210}
	for _, n := range []uint64{1 << 31, 1 << 32, 1 << 33, 1 << 63, 0, 3 << 32, 1<<63 + 1<<31, 1<<32 + 1<<31, 1<<33 + 32} {
		out = append(out, n-2, n-1, n, n+1, n+2, n+5, n-7)
	}
	for shift := range 64 {
		out = append(out, 1<<shift)
	}
	return out
}

// scattered are values all over the range, the same each time.
func scattered(count int) []uint64 {
	var out []uint64
	n := uint64(88172645463325252)
	for range count {
		n ^= n << 13
		n ^= n >> 7
		n ^= n << 17
		out = append(out, n)
	}
	return out
}

// strangers are numbers that are no instruction.
func strangers() []int {
	out := []int{math.MinInt, math.MinInt + 0x45, math.MaxInt, 1<<32 + 0x6a, 1<<16 + 0x6a, -0x6a, -1 << 32}
	known := table()
	for op := -300; op < 1000; op++ {
		if _, ok := known[op]; !ok {
			out = append(out, op)
		}
	}
	return out
}

func TestSigOfInstructions(t *testing.T) {
	known := table()
	if len(known) != 2*29+3 {
		t.Fatal(len(known))
	}
	for op, r := range known {
		params, result, ok := Sig(op)
		if !slices.Equal(params, r.takes) || result != r.tells || !ok {
			t.Errorf("Sig(%#x): %v, %d, %v", op, params, result, ok)
		}
	}
}

func TestSigWrittenOut(t *testing.T) {
	one32, two32, one64, two64 := []int{127}, []int{127, 127}, []int{126}, []int{126, 126}
	for _, x := range []struct {
		first, last int
		params      []int
		result      int
	}{
		{0x45, 0x45, one32, 127}, {0x46, 0x4f, two32, 127}, {0x50, 0x50, one64, 127}, {0x51, 0x5a, two64, 127},
		{0x67, 0x69, one32, 127}, {0x6a, 0x78, two32, 127}, {0x79, 0x7b, one64, 126}, {0x7c, 0x8a, two64, 126},
		{0xa7, 0xa7, one64, 127}, {0xac, 0xad, one32, 126},
	} {
		for op := x.first; op <= x.last; op++ {
			if params, result, ok := Sig(op); !slices.Equal(params, x.params) || result != x.result || !ok {
				t.Errorf("Sig(%#x): %v, %d, %v", op, params, result, ok)
			}
		}
	}
}

func TestSigIsNew(t *testing.T) {
	for op := range table() {
		first, _, _ := Sig(op)
		want := slices.Clone(first)
		for i := range first[:cap(first)] {
			first[:cap(first)][i] = 5
		}
		if again, _, _ := Sig(op); !slices.Equal(again, want) {
			t.Errorf("Sig(%#x) behind a change: %v", op, again)
		}
	}
}

func TestStrangersAreRefused(t *testing.T) {
	for _, op := range strangers() {
		if params, result, ok := Sig(op); len(params) != 0 || result != 0 || ok {
			t.Errorf("Sig(%#x): %v, %d, %v", op, params, result, ok)
		}
		if v, ok := Unary(op, 5); v != 0 || ok {
			t.Errorf("Unary(%#x): %d, %v", op, v, ok)
		}
		if v, trap, ok := Binary(op, 5, 0); v != 0 || trap != 0 || ok {
			t.Errorf("Binary(%#x): %d, %d, %v", op, v, trap, ok)
		}
	}
}

func TestInstructionsAtEdges(t *testing.T) {
	for _, r := range table() {
		for _, a := range edges() {
			for _, b := range edges() {
				r.check(t, a, b)
			}
		}
	}
}

func TestInstructionsScattered(t *testing.T) {
	values := scattered(60)
	for _, r := range table() {
		for i, a := range values {
			// Small divisors too, or nearly all quotients would be 0 or 1.
			r.check(t, a, values[len(values)-1-i])
			r.check(t, a, a)
			r.check(t, a, values[len(values)-1-i]>>(i%64))
			r.check(t, a>>(i%64), values[len(values)-1-i])
		}
	}
}

func TestBinaryWrittenOut(t *testing.T) {
	const least, least64, all, all64 = 1 << 31, 1 << 63, 1<<32 - 1, 1<<64 - 1
	for _, x := range []struct {
		op      int
		a, b, v uint64
		trap    int
	}{
		{0x46, 5, 5, 1, 0}, {0x47, 5, 5, 0, 0}, {0x48, all, 0, 1, 0}, {0x49, all, 0, 0, 0}, {0x4a, all, 0, 0, 0}, {0x4b, all, 0, 1, 0}, {0x4c, all, 0, 1, 0}, {0x4d, all, 0, 0, 0}, {0x4e, all, 0, 0, 0}, {0x4f, all, 0, 1, 0},
		{0x51, 5, 5, 1, 0}, {0x52, 5, 5, 0, 0}, {0x53, all64, 0, 1, 0}, {0x54, all64, 0, 0, 0}, {0x55, all64, 0, 0, 0}, {0x56, all64, 0, 1, 0}, {0x57, all64, 0, 1, 0}, {0x58, all64, 0, 0, 0}, {0x59, all64, 0, 0, 0}, {0x5a, all64, 0, 1, 0},
		{0x6a, all, 2, 1, 0}, {0x6b, 1, 2, all, 0}, {0x6c, all, all, 1, 0}, {0x7c, all64, 2, 1, 0}, {0x7d, 1, 2, all64, 0}, {0x7e, all64, all64, 1, 0}, {0x7e, 1 << 32, 1 << 31, least64, 0},
		{0x6d, least, all, 0, api.TrapOver}, {0x6d, least, 1, least, 0}, {0x6d, 7, all - 1, all - 2, 0}, {0x6d, all - 6, 2, all - 2, 0}, {0x6d, 7, 0, 0, api.TrapDivide}, {0x6d, least, 0, 0, api.TrapDivide}, {0x6d, least + 1, all, least - 1, 0},
		{0x7f, least64, all64, 0, api.TrapOver}, {0x7f, least64, 1, least64, 0}, {0x7f, 7, all64 - 1, all64 - 2, 0}, {0x7f, all64 - 6, 2, all64 - 2, 0}, {0x7f, 7, 0, 0, api.TrapDivide}, {0x7f, least64, 0, 0, api.TrapDivide}, {0x7f, least, all, 0, 0}, {0x7f, least, all64, 1<<64 - least, 0},
		{0x6e, all, 2, least - 1, 0}, {0x6e, 7, 0, 0, api.TrapDivide}, {0x80, all64, 2, least64 - 1, 0}, {0x80, 7, 0, 0, api.TrapDivide}, {0x6e, least, all, 0, 0}, {0x80, least64, all64, 0, 0},
		{0x6f, least, all, 0, 0}, {0x6f, all - 6, 2, all, 0}, {0x6f, 7, all - 1, 1, 0}, {0x6f, 7, 0, 0, api.TrapDivide}, {0x81, least64, all64, 0, 0}, {0x81, all64 - 6, 2, all64, 0}, {0x81, 7, all64 - 1, 1, 0}, {0x81, 7, 0, 0, api.TrapDivide},
		{0x70, all, 2, 1, 0}, {0x70, least, all, least, 0}, {0x70, 7, 0, 0, api.TrapDivide}, {0x82, all64, 2, 1, 0}, {0x82, least64, all64, least64, 0}, {0x82, 7, 0, 0, api.TrapDivide},
		{0x71, 6, 3, 2, 0}, {0x72, 6, 3, 7, 0}, {0x73, 6, 3, 5, 0}, {0x83, 6 << 40, 3 << 40, 2 << 40, 0}, {0x84, 6 << 40, 3 << 40, 7 << 40, 0}, {0x85, 6 << 40, 3 << 40, 5 << 40, 0},
		{0x74, 3, 31, least, 0}, {0x74, 3, 32, 3, 0}, {0x74, 3, 33, 6, 0}, {0x75, least, 31, all, 0}, {0x75, least, 32, least, 0}, {0x75, least, 33, 0xc0000000, 0}, {0x76, least, 31, 1, 0}, {0x76, least, 32, least, 0}, {0x76, least, 33, 1 << 30, 0},
		{0x86, 3, 63, least64, 0}, {0x86, 3, 64, 3, 0}, {0x86, 3, 65, 6, 0}, {0x86, 3, 33, 6 << 32, 0}, {0x87, least64, 63, all64, 0}, {0x87, least64, 64, least64, 0}, {0x87, least64, 65, 3 << 62, 0}, {0x88, least64, 63, 1, 0}, {0x88, least64, 64, least64, 0}, {0x88, least64, 65, 1 << 62, 0},
		{0x77, least + 1, 1, 3, 0}, {0x77, 3, 31, least + 1, 0}, {0x77, 3, 32, 3, 0}, {0x77, 3, 33, 6, 0}, {0x78, 3, 1, least + 1, 0}, {0x78, 3, 31, 6, 0}, {0x78, 3, 32, 3, 0}, {0x78, 3, 33, least + 1, 0}, {0x77, 3, 0, 3, 0}, {0x78, 3, 0, 3, 0},
		{0x89, least64 + 1, 1, 3, 0}, {0x89, 3, 63, least64 + 1, 0}, {0x89, 3, 64, 3, 0}, {0x89, 3, 65, 6, 0}, {0x8a, 3, 1, least64 + 1, 0}, {0x8a, 3, 63, 6, 0}, {0x8a, 3, 64, 3, 0}, {0x8a, 3, 65, least64 + 1, 0}, {0x89, 3, 0, 3, 0}, {0x8a, 3, 0, 3, 0},
		// Of a value for an I32 the lower 32 bits count alone; of one for an I64 all.
		{0x46, 1<<32 + 5, 5, 1, 0}, {0x51, 1<<32 + 5, 5, 0, 0}, {0x48, all64, 0, 1, 0}, {0x49, 3 << 32, 1, 1, 0}, {0x6a, 1<<40 + 1, 1<<50 + 1, 2, 0}, {0x6d, 7, 1 << 32, 0, api.TrapDivide}, {0x6d, 3<<32 + least, all64, 0, api.TrapOver}, {0x70, 7, 1<<33 + 4, 3, 0}, {0x76, 1<<32 + 2, 1, 1, 0}, {0x75, 1<<63 + 2, 1, 1, 0}, {0x77, 1<<32 + 1, 1, 2, 0}, {0x78, 1<<32 + 2, 1, 1, 0}, {0x74, 1, 1<<32 + 3, 8, 0}, {0x73, 1<<32 + 1, 2, 3, 0},
	} {
		if v, trap, ok := Binary(x.op, x.a, x.b); v != x.v || trap != x.trap || !ok {
			t.Errorf("Binary(%#x, %#x, %#x): %#x, %d, %v", x.op, x.a, x.b, v, trap, ok)
		}
	}
}

func TestUnaryWrittenOut(t *testing.T) {
	const least, least64, all, all64 = 1 << 31, 1 << 63, 1<<32 - 1, 1<<64 - 1
	for _, x := range []struct {
		op   int
		a, v uint64
	}{
		{0x45, 0, 1}, {0x45, 1, 0}, {0x45, all, 0}, {0x45, 1 << 32, 1}, {0x50, 0, 1}, {0x50, 1, 0}, {0x50, 1 << 32, 0}, {0x50, least64, 0},
		{0x67, 0, 32}, {0x67, 1, 31}, {0x67, least, 0}, {0x67, all, 0}, {0x67, 1<<40 + 1, 31}, {0x67, 1 << 32, 32}, {0x79, 0, 64}, {0x79, 1, 63}, {0x79, least, 32}, {0x79, least64, 0}, {0x79, all64, 0},
		{0x68, 0, 32}, {0x68, 1, 0}, {0x68, least, 31}, {0x68, 1 << 32, 32}, {0x68, 8, 3}, {0x7a, 0, 64}, {0x7a, 1, 0}, {0x7a, least64, 63}, {0x7a, 1 << 32, 32},
		{0x69, 0, 0}, {0x69, all, 32}, {0x69, all64, 32}, {0x69, least, 1}, {0x7b, 0, 0}, {0x7b, all, 32}, {0x7b, all64, 64}, {0x7b, least64, 1},
		{0xa7, 0, 0}, {0xa7, all64, all}, {0xa7, 1<<40 + 3, 3}, {0xa7, least64, 0}, {0xa7, least, least},
		{0xac, 0, 0}, {0xac, least, 0xffffffff80000000}, {0xac, least - 1, least - 1}, {0xac, all, all64}, {0xac, 1<<32 + 5, 5}, {0xac, all64, all64},
		{0xad, 0, 0}, {0xad, least, least}, {0xad, all, all}, {0xad, 1<<32 + 5, 5}, {0xad, all64, all},
	} {
		if v, ok := Unary(x.op, x.a); v != x.v || !ok {
			t.Errorf("Unary(%#x, %#x): %#x, %v", x.op, x.a, v, ok)
		}
	}
}

func TestAnotherNumberOfValues(t *testing.T) {
	for op, r := range table() {
		if v, ok := Unary(op, 0); len(r.takes) == 2 && (v != 0 || ok) {
			t.Errorf("Unary(%#x): %d, %v", op, v, ok)
		}
		if v, trap, ok := Binary(op, 0, 0); len(r.takes) == 1 && (v != 0 || trap != 0 || ok) {
			t.Errorf("Binary(%#x): %d, %d, %v", op, v, trap, ok)
		}
	}
}

func TestSigned(t *testing.T) {
	for _, x := range []struct {
		v        uint64
		n32, n64 int
	}{
		{0, 0, 0}, {1, 1, 1}, {1<<31 - 1, 1<<31 - 1, 1<<31 - 1}, {1 << 31, -1 << 31, 1 << 31}, {1<<32 - 1, -1, 1<<32 - 1}, {1 << 32, 0, 1 << 32}, {1<<32 + 5, 5, 1<<32 + 5},
		{3 << 31, -1 << 31, 3 << 31}, {1<<63 - 1, -1, math.MaxInt}, {1 << 63, 0, math.MinInt}, {1<<63 + 7, 7, math.MinInt + 7}, {1<<64 - 1, -1, -1}, {1<<64 - 1<<31, -1 << 31, -1 << 31},
	} {
		if n := Signed(x.v, api.I32); n != x.n32 {
			t.Errorf("Signed(%#x, I32): %d", x.v, n)
		}
		if n := Signed(x.v, api.I64); n != x.n64 {
			t.Errorf("Signed(%#x, I64): %d", x.v, n)
		}
	}
}

func TestValue(t *testing.T) {
	for _, x := range []struct {
		n        int
		v32, v64 uint64
	}{
		{0, 0, 0}, {1, 1, 1}, {-1, 1<<32 - 1, 1<<64 - 1}, {1<<31 - 1, 1<<31 - 1, 1<<31 - 1}, {1 << 31, 1 << 31, 1 << 31}, {-1 << 31, 1 << 31, 1<<64 - 1<<31}, {-1<<31 - 1, 1<<31 - 1, 1<<64 - 1<<31 - 1},
		{1<<32 - 1, 1<<32 - 1, 1<<32 - 1}, {1 << 32, 0, 1 << 32}, {-1 << 32, 0, 1<<64 - 1<<32}, {1<<32 + 5, 5, 1<<32 + 5}, {math.MaxInt, 1<<32 - 1, 1<<63 - 1}, {math.MinInt, 0, 1 << 63}, {math.MinInt + 1, 1, 1<<63 + 1},
	} {
		if v := Value(x.n, api.I32); v != x.v32 {
			t.Errorf("Value(%d, I32): %#x", x.n, v)
		}
		if v := Value(x.n, api.I64); v != x.v64 {
			t.Errorf("Value(%d, I64): %#x", x.n, v)
		}
	}
}

func TestOtherTypes(t *testing.T) {
	for _, typ := range []int{math.MinInt, -api.I32, -api.I64, -1, api.None, 1, 5, 32, 64, 124, 125, 128, 256 + api.I32, 256 + api.I64, 1<<32 + api.I32, math.MaxInt} {
		for _, v := range edges() {
			if n := Signed(v, typ); n != 0 {
				t.Errorf("Signed(%#x, %d): %d", v, typ, n)
			}
			if got := Value(int(v), typ); got != 0 {
				t.Errorf("Value(%d, %d): %#x", int(v), typ, got)
			}
		}
	}
}

func TestSignedAndValueUndoEachOther(t *testing.T) {
	for _, v := range append(edges(), scattered(200)...) {
		for _, typ := range []int{api.I32, api.I64} {
			low := within(number(v), typ)
			n := Signed(v, typ)
			if big.NewInt(int64(n)).Cmp(signedOf(low, typ)) != 0 {
				t.Errorf("Signed(%#x, %d): %d", v, typ, n)
			}
			if got := Value(n, typ); got != low.Uint64() {
				t.Errorf("Value(%d, %d): %#x", n, typ, got)
			}
		}
	}
}

// binary is what Binary tells, where no trap may be.
func binary(t *testing.T, op int, a, b uint64) uint64 {
	t.Helper()
	v, trap, ok := Binary(op, a, b)
	if trap != 0 || !ok {
		t.Fatalf("Binary(%#x, %#x, %#x): %d, %d, %v", op, a, b, v, trap, ok)
	}
	return v
}

// lower is what counts of v for the I32's or the I64's instructions.
func lower(v uint64, i32 bool) uint64 {
	if i32 {
		return v & (1<<32 - 1)
	}
	return v
}

// forPairs hands on every two edges, and scattered values.
func forPairs(f func(a, b uint64)) {
	for _, a := range edges() {
		for _, b := range edges() {
			f(a, b)
		}
	}
	values := scattered(400)
	for i, a := range values {
		f(a, values[len(values)-1-i]>>(i%64))
	}
}

func TestQuotientAndRest(t *testing.T) {
	for _, x := range []struct{ quotient, rest, times, plus int }{
		{0x6d, 0x6f, 0x6c, 0x6a}, {0x6e, 0x70, 0x6c, 0x6a}, {0x7f, 0x81, 0x7e, 0x7c}, {0x80, 0x82, 0x7e, 0x7c},
	} {
		forPairs(func(a, b uint64) {
			q, trap, ok := Binary(x.quotient, a, b)
			if !ok {
				t.Fatalf("no quotient %#x", x.quotient)
			}
			if trap != 0 {
				return
			}
			r := binary(t, x.rest, a, b)
			if got := binary(t, x.plus, binary(t, x.times, q, b), r); got != lower(a, x.plus == 0x6a) {
				t.Errorf("%#x of %#x, %#x: %#x, rest %#x", x.quotient, a, b, q, r)
			}
		})
	}
}

func TestTurnedBack(t *testing.T) {
	for _, x := range []struct{ left, right int }{{0x77, 0x78}, {0x89, 0x8a}} {
		forPairs(func(a, b uint64) {
			want := lower(a, x.left == 0x77)
			if got := binary(t, x.right, binary(t, x.left, a, b), b); got != want {
				t.Errorf("%#x turned left and right by %#x: %#x", a, b, got)
			}
			if got := binary(t, x.left, binary(t, x.right, a, b), b); got != want {
				t.Errorf("%#x turned right and left by %#x: %#x", a, b, got)
			}
		})
	}
}

func TestOppositeComparisons(t *testing.T) {
	for _, x := range []struct{ op, opposite int }{{0x46, 0x47}, {0x48, 0x4e}, {0x49, 0x4f}, {0x4a, 0x4c}, {0x4b, 0x4d}} {
		for _, more := range []int{0, 0x51 - 0x46} {
			forPairs(func(a, b uint64) {
				v, w := binary(t, x.op+more, a, b), binary(t, x.opposite+more, a, b)
				if v > 1 || w != 1-v {
					t.Errorf("%#x and %#x of %#x, %#x: %d, %d", x.op+more, x.opposite+more, a, b, v, w)
				}
			})
		}
	}
}

func TestExamples(t *testing.T) {
	if v, trap, ok := Binary(0x6d, 0x80000000, 0xffffffff); v != 0 || trap != api.TrapOver || !ok {
		t.Error(v, trap, ok)
	}
	if v, trap, ok := Binary(0x6f, 0x80000000, 0xffffffff); v != 0 || trap != 0 || !ok {
		t.Error(v, trap, ok)
	}
	if v, trap, ok := Binary(0x75, 0x80000000, 33); v != 0xc0000000 || trap != 0 || !ok {
		t.Error(v, trap, ok)
	}
	if v, ok := Unary(0x67, 0); v != 32 || !ok {
		t.Error(v, ok)
	}
	if v, ok := Unary(0xac, 0x80000000); v != 0xffffffff80000000 || !ok {
		t.Error(v, ok)
	}
}

// The functions are made once: asked by many at one time, each must find them whole.
func TestAskedByMany(t *testing.T) {
	functions, making = [lastOp + 1]function{}, sync.Once{}
	var all sync.WaitGroup
	got := make([]bool, 16)
	for i := range got {
		all.Go(func() { _, _, got[i] = Sig(0x79 + i) })
	}
	all.Wait()
	for i, ok := range got {
		if !ok {
			t.Errorf("%#x is no instruction", 0x79+i)
		}
	}
}

// The functions that are kept stand beside what the calls reckon: they must not part from it.
func TestKeptFunctions(t *testing.T) {
	rules := table()
	Sig(0)
	for op, f := range functions {
		r, ok := rules[op]
		if ok != (f != nil) {
			t.Fatalf("%#x has a function: %v", op, f != nil)
		}
		if !ok {
			continue
		}
		forPairs(func(a, b uint64) {
			want, wantTrap, _ := Binary(op, a, b)
			if len(r.takes) == 1 {
				want, _ = Unary(op, a)
			}
			if v, trap := f(a, b); v != want || trap != wantTrap {
				t.Errorf("%#x of %#x, %#x: %#x, %d", op, a, b, v, trap)
			}
		})
	}
}

// Unary and Binary must tell the same, whether the functions have been made or not.
func TestReckonedWithoutKeptFunctions(t *testing.T) {
	functions, making = [lastOp + 1]function{}, sync.Once{}
	for _, r := range table() {
		r.check(t, 0x123456789abcdef0, 0xfedcba9876543210)
		r.check(t, 7, 0)
	}
	for op, f := range functions {
		if f != nil {
			t.Errorf("%#x has a function, and none was asked for", op)
		}
	}
}

func FuzzInstructions(f *testing.F) {
	f.Add(0x6d, uint64(0x80000000), uint64(0xffffffff))
	f.Add(0xac, uint64(0x80000000), uint64(0))
	f.Add(-1, uint64(1), uint64(2))
	known := table()
	f.Fuzz(func(t *testing.T, op int, a, b uint64) {
		if r, ok := known[op]; ok {
			r.check(t, a, b)
			return
		}
		_, _, ok := Sig(op)
		_, one := Unary(op, a)
		_, _, two := Binary(op, a, b)
		if ok || one || two {
			t.Errorf("%#x is an instruction: %v, %v, %v", op, ok, one, two)
		}
	})
}
