package ints

import (
	"math"
	"math/big"
	"math/rand"
	"strings"
	"testing"

	"athanor/api"
)

const (
	lowest  = -1 << 30
	highest = 1<<30 - 1
	round   = 1 << 31
)

// plainWrap looks for the integer as the chapter says it, with numbers of any size.
func plainWrap(n *big.Int) *big.Int {
	full, half := big.NewInt(round), big.NewInt(round/2)
	out := new(big.Int).Add(n, half)
	out.Mod(out, full) // Mod is never below 0
	return out.Sub(out, half)
}

// plainDo reckons with numbers of any size; the quotient is that of the numbers without their signs, with its sign put to it.
func plainDo(op, a, b int) (int, bool) {
	x, y := plainWrap(big.NewInt(int64(a))), plainWrap(big.NewInt(int64(b)))
	switch op {
	case 1:
		return int(plainWrap(new(big.Int).Add(x, y)).Int64()), true
	case 2:
		return int(plainWrap(new(big.Int).Sub(x, y)).Int64()), true
	case 3:
		return int(plainWrap(new(big.Int).Mul(x, y)).Int64()), true
	case 4, 5:
		if y.Sign() == 0 {
			return 0, false
		}
		q := new(big.Int).Div(new(big.Int).Abs(x), new(big.Int).Abs(y))
		if x.Sign() != y.Sign() {
			q.Neg(q)
		}
		if op == 4 {
			return int(plainWrap(q).Int64()), true
		}
		return int(plainWrap(new(big.Int).Sub(x, q.Mul(q, y))).Int64()), true
	case 6:
		return map[int]int{-1: 1}[x.Cmp(y)], true
	case 7:
		return map[int]int{0: 1}[x.Cmp(y)], true
	}
	return 0, false
}

// edges are numbers at and beside the ends of the integers, of the rounds about them, of int, and of each power of two.
func edges() []int {
	out := []int{0, 2, -2, 3, -3, 7, -7, 10, -10, 46341, -46341}
	middles := []int{lowest, highest, math.MinInt64 + 2, math.MaxInt64 - 2, math.MinInt32, math.MaxInt32}
	for _, k := range []int{-3, -2, -1, 1, 2, 3, 1 << 20, -1 << 20} {
		middles = append(middles, k*round, k*round+lowest, k*round+highest)
	}
	for _, n := range middles {
		for by := -2; by <= 2; by++ {
			out = append(out, n+by)
		}
	}
	for shift := range 63 {
		out = append(out, 1<<shift-1, 1<<shift, -1<<shift, -1<<shift-1)
	}
	return out
}

func checkWrap(t *testing.T, n int) {
	t.Helper()
	want := int(plainWrap(big.NewInt(int64(n))).Int64())
	if got := Wrap(n); got != want {
		t.Errorf("Wrap(%d) is %d, not %d", n, got, want)
	}
	if got := In(n); got != (n >= lowest && n <= highest) {
		t.Errorf("In(%d) is %v", n, got)
	}
	if got := Wrap(n); !In(got) || Wrap(got) != got {
		t.Errorf("Wrap(%d) is %d, which is no integer", n, got)
	}
}

func checkDo(t *testing.T, op, a, b int) {
	t.Helper()
	want, wantOK := plainDo(op, a, b)
	if got, ok := Do(op, a, b); got != want || ok != wantOK {
		t.Errorf("Do(%d, %d, %d) is %d, %v, not %d, %v", op, a, b, got, ok, want, wantOK)
	}
}

// must is what an operation makes of two numbers that it must make something of.
func must(t *testing.T, op, a, b int) int {
	t.Helper()
	v, ok := Do(op, a, b)
	if !ok {
		t.Errorf("Do(%d, %d, %d) is false", op, a, b)
	}
	return v
}

// checkRound holds P10.4: sums, differences and products of whole ints, which go round at 2^64, wrapped, against those of what the ints are wrapped to.
func checkRound(t *testing.T, a, b int) {
	t.Helper()
	for op, whole := range []int{1: a + b, 2: a - b, 3: a * b} {
		if op == 0 {
			continue
		}
		apart := must(t, op, Wrap(a), Wrap(b))
		if got := must(t, op, a, b); got != Wrap(whole) || got != apart {
			t.Errorf("Do(%d, %d, %d) is %d, the whole wrapped is %d, of what is wrapped %d", op, a, b, got, Wrap(whole), apart)
		}
	}
}

// checkRest holds P10.5, and that the rest is smaller than b and has the sign of a.
func checkRest(t *testing.T, a, b int) {
	t.Helper()
	if Wrap(b) == 0 {
		return
	}
	q, r := must(t, api.OpDiv, a, b), must(t, api.OpRem, a, b)
	if back := must(t, api.OpAdd, must(t, api.OpMul, q, b), r); back != Wrap(a) {
		t.Errorf("%d by %d is %d, rest %d, which are %d", a, b, q, r, back)
	}
	size := func(n int) int { return max(n, -n) }
	if size(r) >= size(Wrap(b)) || r != 0 && r < 0 != (Wrap(a) < 0) {
		t.Errorf("%d by %d has the rest %d", a, b, r)
	}
}

func checkAll(t *testing.T, a, b int) {
	t.Helper()
	for op := 0; op <= 8; op++ {
		checkDo(t, op, a, b)
	}
	checkRound(t, a, b)
	checkRest(t, a, b)
}

// TestEnds: P10.1, written out.
func TestEnds(t *testing.T) {
	for _, x := range []struct {
		n, wrapped int
		in         bool
	}{
		{0, 0, true}, {1, 1, true}, {-1, -1, true},
		{1<<30 - 2, 1<<30 - 2, true}, {1<<30 - 1, 1<<30 - 1, true}, {1 << 30, -1 << 30, false}, {1<<30 + 1, -1<<30 + 1, false},
		{-1<<30 + 1, -1<<30 + 1, true}, {-1 << 30, -1 << 30, true}, {-1<<30 - 1, 1<<30 - 1, false}, {-1<<30 - 2, 1<<30 - 2, false},
		{1<<31 - 1, -1, false}, {1 << 31, 0, false}, {1<<31 + 1, 1, false},
		{-1<<31 - 1, -1, false}, {-1 << 31, 0, false}, {-1<<31 + 1, 1, false},
		{1 << 32, 0, false}, {1<<32 + 1<<30, -1 << 30, false}, {3 << 30, -1 << 30, false},
		{math.MaxInt64, -1, false}, {math.MaxInt64 - 1, -2, false}, {math.MinInt64, 0, false}, {math.MinInt64 + 1, 1, false},
	} {
		if Wrap(x.n) != x.wrapped || In(x.n) != x.in {
			t.Errorf("%d: wrapped %d, in %v; not %d, %v", x.n, Wrap(x.n), In(x.n), x.wrapped, x.in)
		}
	}
}

// TestWrap: P10.1, at all edges and over numbers by chance.
func TestWrap(t *testing.T) {
	for _, n := range edges() {
		checkWrap(t, n)
	}
	from := rand.New(rand.NewSource(1))
	for range 20000 {
		checkWrap(t, chance(from))
	}
}

// TestOperations: P10.2, written out: wrapped first, wrapped behind, each sign, nothing to divide by.
func TestOperations(t *testing.T) {
	for _, x := range []struct {
		op, a, b, v int
		ok          bool
	}{
		{api.OpAdd, 2, 3, 5, true}, {api.OpAdd, highest, 1, lowest, true}, {api.OpAdd, lowest, -1, highest, true}, {api.OpAdd, lowest, lowest, 0, true},
		{api.OpAdd, round + 2, -round + 3, 5, true}, {api.OpAdd, math.MaxInt64, math.MaxInt64, -2, true}, {api.OpAdd, math.MinInt64, math.MinInt64, 0, true},
		{api.OpSub, 2, 3, -1, true}, {api.OpSub, lowest, 1, highest, true}, {api.OpSub, 0, lowest, lowest, true}, {api.OpSub, math.MinInt64, math.MaxInt64, 1, true},
		{api.OpMul, 6, -7, -42, true}, {api.OpMul, 1 << 15, 1 << 15, lowest, true}, {api.OpMul, 1 << 16, 1 << 15, 0, true}, {api.OpMul, lowest, -1, lowest, true},
		{api.OpMul, lowest, lowest, 0, true}, {api.OpMul, highest, highest, 1, true}, {api.OpMul, round + 6, 7, 42, true},
		{api.OpDiv, 7, 2, 3, true}, {api.OpDiv, -7, 2, -3, true}, {api.OpDiv, 7, -2, -3, true}, {api.OpDiv, -7, -2, 3, true}, {api.OpDiv, 1, 2, 0, true}, {api.OpDiv, -1, 2, 0, true},
		{api.OpDiv, lowest, -1, lowest, true}, {api.OpDiv, lowest, 1, lowest, true}, {api.OpDiv, 1 << 30, 2, -1 << 29, true}, {api.OpDiv, highest, round - 1, -highest, true},
		{api.OpRem, 7, 2, 1, true}, {api.OpRem, -7, 2, -1, true}, {api.OpRem, 7, -2, 1, true}, {api.OpRem, -7, -2, -1, true}, {api.OpRem, 6, 3, 0, true},
		{api.OpRem, lowest, -1, 0, true}, {api.OpRem, 1 << 30, 3, -1, true}, {api.OpRem, 7, round - 2, 1, true}, {api.OpRem, lowest, highest, -1, true},
		{api.OpDiv, 1, 0, 0, false}, {api.OpDiv, 0, 0, 0, false}, {api.OpDiv, 1, round, 0, false}, {api.OpDiv, 1, -round, 0, false}, {api.OpDiv, 1, math.MinInt64, 0, false},
		{api.OpRem, 1, 0, 0, false}, {api.OpRem, 0, 0, 0, false}, {api.OpRem, 1, round, 0, false}, {api.OpRem, 1, 1 << 62, 0, false}, {api.OpRem, lowest, math.MinInt64, 0, false},
		{api.OpLt, 1, 2, 1, true}, {api.OpLt, 2, 2, 0, true}, {api.OpLt, 2, 1, 0, true}, {api.OpLt, lowest, highest, 1, true}, {api.OpLt, highest, highest + 1, 0, true},
		{api.OpLt, 1 << 30, 0, 1, true}, {api.OpLt, round, 1, 1, true}, {api.OpLt, math.MaxInt64, math.MinInt64, 1, true}, {api.OpLt, -round + 1, 0, 0, true},
		{api.OpEq, 2, 2, 1, true}, {api.OpEq, 2, -2, 0, true}, {api.OpEq, 5, round + 5, 1, true}, {api.OpEq, 1 << 30, lowest, 1, true}, {api.OpEq, math.MinInt64, 0, 1, true}, {api.OpEq, highest, lowest, 0, true},
	} {
		if v, ok := Do(x.op, x.a, x.b); v != x.v || ok != x.ok {
			t.Errorf("Do(%d, %d, %d) is %d, %v, not %d, %v", x.op, x.a, x.b, v, ok, x.v, x.ok)
		}
	}
}

// noOperations are numbers that are no operation's; some would be, cut to fewer bits.
func noOperations() []int {
	out := []int{0, -1, -7, -8, 8, 9, 15, 16, 255, 256 + 1, 1<<16 + 1, 1<<31 + 4, 1<<32 + 1, 1<<32 + 7, math.MinInt64, math.MinInt64 + 1, math.MaxInt64, math.MaxInt64 - 1}
	for n := 8; n < 300; n++ {
		out = append(out, n, -n)
	}
	return out
}

// TestNoOperation: P10.2 and P10.3 where there is no such operation.
func TestNoOperation(t *testing.T) {
	for _, op := range noOperations() {
		for _, a := range []int{0, 1, -1, lowest, math.MaxInt64} {
			for _, b := range []int{0, 1, 2, round} {
				if v, ok := Do(op, a, b); v != 0 || ok {
					t.Errorf("Do(%d, %d, %d) is %d, %v", op, a, b, v, ok)
				}
			}
		}
		if Word(op) != "" {
			t.Errorf("Word(%d) is %q", op, Word(op))
		}
	}
}

// TestAllEdges: P10.2, P10.4 and P10.5, at all pairs of edges.
func TestAllEdges(t *testing.T) {
	all := edges()
	for _, a := range all {
		for _, b := range all {
			checkAll(t, a, b)
		}
		if t.Failed() {
			return
		}
	}
}

// TestSmall: every pair of small numbers, so that each quotient and rest near 0 is met.
func TestSmall(t *testing.T) {
	for a := -40; a <= 40; a++ {
		for b := -40; b <= 40; b++ {
			checkAll(t, a, b)
		}
	}
}

// chance is a number of any length in bits, of either sign.
func chance(from *rand.Rand) int {
	return int(from.Uint64()) >> from.Intn(64)
}

// TestChance: P10.2, P10.4 and P10.5, over numbers by chance.
func TestChance(t *testing.T) {
	from := rand.New(rand.NewSource(2))
	for range 20000 {
		checkAll(t, chance(from), chance(from))
	}
}

// TestManyNumbers: P10.4 over sums of products of many numbers, wrapped at the end or at each step.
func TestManyNumbers(t *testing.T) {
	from := rand.New(rand.NewSource(3))
	for range 2000 {
		whole, wrapped := new(big.Int), 0
		for range 1 + from.Intn(12) {
			op, n := 1+from.Intn(3), chance(from)
			wrapped = must(t, op, wrapped, n)
			switch op {
			case 1:
				whole.Add(whole, big.NewInt(int64(n)))
			case 2:
				whole.Sub(whole, big.NewInt(int64(n)))
			case 3:
				whole.Mul(whole, big.NewInt(int64(n)))
			}
		}
		if want := plainWrap(whole).Int64(); int64(wrapped) != want {
			t.Errorf("%d, not %d", wrapped, want)
		}
	}
}

// TestWords: P10.3.
func TestWords(t *testing.T) {
	for i, word := range []string{"+", "-", "*", "/", "%", "<", "=="} {
		if Word(i+1) != word || Op(word) != i+1 {
			t.Errorf("Word(%d) is %q, Op(%q) is %d", i+1, Word(i+1), word, Op(word))
		}
	}
	for i, op := range []int{api.OpAdd, api.OpSub, api.OpMul, api.OpDiv, api.OpRem, api.OpLt, api.OpEq} {
		if op != i+1 || Word(op) == "" {
			t.Errorf("api's operation %d is %d", i+1, op)
		}
	}
}

// TestNoWords: P10.3, words that are none's: every byte, every two of the words' bytes, and words with more about them.
func TestNoWords(t *testing.T) {
	words := []string{"+", "-", "*", "/", "%", "<", "=="}
	none := []string{"", "=", "===", "= =", "<=", ">", ">=", "!=", "add", "1", "÷", "−", "\x00", "\xff", "＋", strings.Repeat("=", 1000)}
	for b := range 256 {
		if one := string([]byte{byte(b)}); !strings.Contains("+-*/%<", one) {
			none = append(none, one)
		}
	}
	for _, w := range words {
		none = append(none, " "+w, w+" ", w+"\n", w+"\x00", "\x00"+w)
		for _, v := range words {
			none = append(none, v+w)
		}
	}
	for _, word := range none {
		if Op(word) != 0 {
			t.Errorf("Op(%q) is %d", word, Op(word))
		}
	}
}

// TestThereAndBack: Op of a number's Word is that number, if it is an operation's, else 0.
func TestThereAndBack(t *testing.T) {
	for op := -300; op <= 300; op++ {
		want := 0
		if op >= 1 && op <= 7 {
			want = op
		}
		if got := Op(Word(op)); got != want {
			t.Errorf("Op(Word(%d)) is %d", op, got)
		}
	}
}

// TestExamples: the chapter's.
func TestExamples(t *testing.T) {
	if Wrap(1<<30) != -1<<30 {
		t.Error(Wrap(1 << 30))
	}
	if v, ok := Do(4, -1<<30, -1); v != -1<<30 || !ok {
		t.Error(v, ok)
	}
	if v, ok := Do(5, -7, 2); v != -1 || !ok {
		t.Error(v, ok)
	}
	if v, ok := Do(4, 1, 1<<31); v != 0 || ok {
		t.Error(v, ok)
	}
}

func FuzzNumbers(f *testing.F) {
	f.Add(1, lowest, -1)
	f.Add(5, -7, 2)
	f.Add(8, math.MinInt64, math.MaxInt64)
	f.Fuzz(func(t *testing.T, op, a, b int) {
		checkWrap(t, a)
		checkDo(t, op, a, b)
		checkAll(t, a, b)
		if word := Word(op); (word == "") != (op < 1 || op > 7) || word != "" && Op(word) != op {
			t.Errorf("Word(%d) is %q", op, word)
		}
	})
}
