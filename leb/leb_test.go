package leb

import (
	"math"
	"math/big"
	"math/bits"
	"strings"
	"testing"

	"athanor/api"
)

// edgesU are the numbers without sign at which a group, 32 or 64 bits begin and end.
func edgesU() []uint64 {
	out := []uint64{0, 624485}
	for shift := range 64 {
		n := uint64(1) << shift
		out = append(out, n-1, n, n+1)
	}
	return append(out, math.MaxUint32-1, math.MaxUint64-1, math.MaxUint64)
}

// edgesS are the numbers with sign at which a group, 32 or 64 bits begin and end.
func edgesS() []int64 {
	out := []int64{0, -1, 624485, -123456}
	for shift := range 63 {
		n := int64(1) << shift
		out = append(out, n-1, n, n+1, -n-1, -n, -n+1)
	}
	return append(out, math.MaxInt64-1, math.MaxInt64, math.MinInt64, math.MinInt64+1)
}

// told is what a read must answer.
type told struct {
	n      *big.Int
	behind int
	err    api.Errno
}

// wanted works a read out with numbers of any size, as the chapter's words say it.
func wanted(s string, at, width int, sign bool) told {
	zero := new(big.Int)
	if width != 32 && width != 64 || at < 0 || at > len(s) {
		return told{zero, 0, api.ErrArg}
	}
	most := map[int]int{32: 5, 64: 10}[width]
	end := at
	for end < len(s) && s[end] >= 128 {
		end++
	}
	if end == len(s) || end-at+1 > most {
		return told{zero, 0, api.ErrLeb}
	}
	n := new(big.Int)
	for i := end; i >= at; i-- {
		n.Mul(n, big.NewInt(128))
		n.Add(n, big.NewInt(int64(s[i]%128)))
	}
	low, high := new(big.Int), new(big.Int).Lsh(big.NewInt(1), uint(width))
	if sign {
		if s[end] >= 64 {
			n.Sub(n, new(big.Int).Lsh(big.NewInt(1), uint(7*(end-at+1))))
		}
		high.Rsh(high, 1)
		low.Neg(high)
	}
	if n.Cmp(low) < 0 || n.Cmp(high) >= 0 {
		return told{zero, 0, api.ErrLeb}
	}
	return told{n, end + 1, api.OK}
}

// checkRead holds U and S of either width against wanted.
func checkRead(t *testing.T, s string, at int) {
	t.Helper()
	for _, width := range []int{32, 64} {
		checkReadAs(t, s, at, width)
	}
}

func checkReadAs(t *testing.T, s string, at, width int) {
	t.Helper()
	u, behind, err := U(s, at, width)
	if w := wanted(s, at, width, false); new(big.Int).SetUint64(u).Cmp(w.n) != 0 || behind != w.behind || err != w.err {
		t.Errorf("U(%x, %d, %d): %d, %d, %v; wanted %v", s, at, width, u, behind, err, w)
	}
	n, behind, err := S(s, at, width)
	if w := wanted(s, at, width, true); big.NewInt(n).Cmp(w.n) != 0 || behind != w.behind || err != w.err {
		t.Errorf("S(%x, %d, %d): %d, %d, %v; wanted %v", s, at, width, n, behind, err, w)
	}
}

// P1.1

func TestPutU(t *testing.T) {
	for _, x := range []struct {
		n    uint64
		want string
	}{
		{0, "\x00"}, {1, "\x01"}, {127, "\x7f"}, {128, "\x80\x01"}, {16383, "\xff\x7f"}, {16384, "\x80\x80\x01"},
		{624485, "\xe5\x8e\x26"},
		{math.MaxInt32, "\xff\xff\xff\xff\x07"}, {1 << 31, "\x80\x80\x80\x80\x08"},
		{math.MaxUint32, "\xff\xff\xff\xff\x0f"}, {1 << 32, "\x80\x80\x80\x80\x10"},
		{math.MaxInt64, "\xff\xff\xff\xff\xff\xff\xff\xff\x7f"},
		{1 << 63, "\x80\x80\x80\x80\x80\x80\x80\x80\x80\x01"},
		{math.MaxUint64, "\xff\xff\xff\xff\xff\xff\xff\xff\xff\x01"},
	} {
		if got := PutU(x.n); got != x.want {
			t.Errorf("PutU(%d): %x, wanted %x", x.n, got, x.want)
		}
	}
}

func TestPutS(t *testing.T) {
	for _, x := range []struct {
		n    int64
		want string
	}{
		{0, "\x00"}, {-1, "\x7f"}, {63, "\x3f"}, {64, "\xc0\x00"}, {-64, "\x40"}, {-65, "\xbf\x7f"},
		{127, "\xff\x00"}, {128, "\x80\x01"}, {-128, "\x80\x7f"}, {8191, "\xff\x3f"}, {8192, "\x80\xc0\x00"}, {-8192, "\x80\x40"},
		{-123456, "\xc0\xbb\x78"},
		{math.MaxInt32, "\xff\xff\xff\xff\x07"}, {math.MinInt32, "\x80\x80\x80\x80\x78"},
		{math.MaxUint32, "\xff\xff\xff\xff\x0f"},
		{math.MaxInt64, "\xff\xff\xff\xff\xff\xff\xff\xff\xff\x00"},
		{math.MinInt64, "\x80\x80\x80\x80\x80\x80\x80\x80\x80\x7f"},
	} {
		if got := PutS(x.n); got != x.want {
			t.Errorf("PutS(%d): %x, wanted %x", x.n, got, x.want)
		}
	}
}

func TestPutsAreAsShortAsMayBe(t *testing.T) {
	for _, n := range edgesU() {
		if got, want := len(PutU(n)), max(1, (bits.Len64(n)+6)/7); got != want {
			t.Errorf("PutU(%d): %d bytes, wanted %d", n, got, want)
		}
	}
	for _, n := range edgesS() {
		// The bits that differ from the sign, and one for the sign itself.
		if got, want := len(PutS(n)), (bits.Len64(uint64(n^n>>63))+1+6)/7; got != want {
			t.Errorf("PutS(%d): %d bytes, wanted %d", n, got, want)
		}
	}
}

func TestPutsMarkEachByteButTheLast(t *testing.T) {
	check := func(s string) {
		for i := range len(s) {
			if last := i == len(s)-1; (s[i] < 128) != last {
				t.Errorf("%x: byte %d", s, i)
			}
		}
	}
	for _, n := range edgesU() {
		check(PutU(n))
	}
	for _, n := range edgesS() {
		check(PutS(n))
	}
}

// P1.2

func TestU(t *testing.T) {
	for _, x := range []struct {
		s        string
		at, bits int
		n        uint64
		behind   int
		err      api.Errno
	}{
		{"\x00", 0, 32, 0, 1, api.OK},
		{"\xe5\x8e\x26", 0, 32, 624485, 3, api.OK},
		{"a\xe5\x8e\x26b", 1, 64, 624485, 4, api.OK},
		{"\x80\x00", 0, 32, 0, 2, api.OK},
		{"\x85\x80\x80\x80\x00", 0, 32, 5, 5, api.OK},
		{"\x85\x80\x80\x80\x80\x00", 0, 32, 0, 0, api.ErrLeb},
		{"\x85\x80\x80\x80\x80\x00", 0, 64, 5, 6, api.OK},
		{"\xff\xff\xff\xff\x0f", 0, 32, math.MaxUint32, 5, api.OK},
		{"\x80\x80\x80\x80\x10", 0, 32, 0, 0, api.ErrLeb},
		{"\x80\x80\x80\x80\x10", 0, 64, 1 << 32, 5, api.OK},
		{"\xff\xff\xff\xff\x1f", 0, 32, 0, 0, api.ErrLeb},
		{"\xff\xff\xff\xff\xff\xff\xff\xff\x7f", 0, 64, math.MaxInt64, 9, api.OK},
		{"\xff\xff\xff\xff\xff\xff\xff\xff\xff\x01", 0, 64, math.MaxUint64, 10, api.OK},
		{"\x80\x80\x80\x80\x80\x80\x80\x80\x80\x02", 0, 64, 0, 0, api.ErrLeb},
		{"\x80\x80\x80\x80\x80\x80\x80\x80\x80\x40", 0, 64, 0, 0, api.ErrLeb},
		{"\x80\x80\x80\x80\x80\x80\x80\x80\x80\x00", 0, 64, 0, 10, api.OK},
		{"\x80\x80\x80\x80\x80\x80\x80\x80\x80\x80\x00", 0, 64, 0, 0, api.ErrLeb},
		{"", 0, 64, 0, 0, api.ErrLeb},
		{"a", 1, 32, 0, 0, api.ErrLeb},
	} {
		if n, behind, err := U(x.s, x.at, x.bits); n != x.n || behind != x.behind || err != x.err {
			t.Errorf("U(%x, %d, %d): %d, %d, %v; wanted %d, %d, %v", x.s, x.at, x.bits, n, behind, err, x.n, x.behind, x.err)
		}
	}
}

// P1.3

func TestS(t *testing.T) {
	for _, x := range []struct {
		s        string
		at, bits int
		n        int64
		behind   int
		err      api.Errno
	}{
		{"\x00", 0, 32, 0, 1, api.OK},
		{"\x3f", 0, 32, 63, 1, api.OK},
		{"\x40", 0, 32, -64, 1, api.OK},
		{"\xc0\x00", 0, 64, 64, 2, api.OK},
		{"a\xc0\xbb\x78b", 1, 32, -123456, 4, api.OK},
		{"\xff\x7f", 0, 64, -1, 2, api.OK},
		{"\xff\x00", 0, 32, 127, 2, api.OK},
		{"\x80\x80\x80\x80\x00", 0, 32, 0, 5, api.OK},
		{"\xff\xff\xff\xff\x7f", 0, 32, -1, 5, api.OK},
		{"\xff\xff\xff\xff\xff\x7f", 0, 32, 0, 0, api.ErrLeb},
		{"\xff\xff\xff\xff\xff\x7f", 0, 64, -1, 6, api.OK},
		{"\xff\xff\xff\xff\x07", 0, 32, math.MaxInt32, 5, api.OK},
		{"\x80\x80\x80\x80\x08", 0, 32, 0, 0, api.ErrLeb},
		{"\x80\x80\x80\x80\x08", 0, 64, 1 << 31, 5, api.OK},
		{"\xff\xff\xff\xff\x0f", 0, 32, 0, 0, api.ErrLeb},
		{"\x80\x80\x80\x80\x78", 0, 32, math.MinInt32, 5, api.OK},
		{"\xff\xff\xff\xff\x77", 0, 32, 0, 0, api.ErrLeb},
		{"\xff\xff\xff\xff\x77", 0, 64, math.MinInt32 - 1, 5, api.OK},
		{"\x80\x80\x80\x80\x80\x80\x80\x80\x40", 0, 64, -1 << 62, 9, api.OK},
		{"\xff\xff\xff\xff\xff\xff\xff\xff\xff\x00", 0, 64, math.MaxInt64, 10, api.OK},
		{"\x80\x80\x80\x80\x80\x80\x80\x80\x80\x7f", 0, 64, math.MinInt64, 10, api.OK},
		{"\xff\xff\xff\xff\xff\xff\xff\xff\xff\x7f", 0, 64, -1, 10, api.OK},
		{"\x80\x80\x80\x80\x80\x80\x80\x80\x80\x01", 0, 64, 0, 0, api.ErrLeb},
		{"\xff\xff\xff\xff\xff\xff\xff\xff\xff\x3f", 0, 64, 0, 0, api.ErrLeb},
		{"\xff\xff\xff\xff\xff\xff\xff\xff\xff\x7e", 0, 64, 0, 0, api.ErrLeb},
		{"\xff\xff\xff\xff\xff\xff\xff\xff\xff\xff\x7f", 0, 64, 0, 0, api.ErrLeb},
		{"", 0, 64, 0, 0, api.ErrLeb},
		{"a", 1, 32, 0, 0, api.ErrLeb},
	} {
		if n, behind, err := S(x.s, x.at, x.bits); n != x.n || behind != x.behind || err != x.err {
			t.Errorf("S(%x, %d, %d): %d, %d, %v; wanted %d, %d, %v", x.s, x.at, x.bits, n, behind, err, x.n, x.behind, x.err)
		}
	}
}

// P1.2 and P1.3: what both ask.

func TestWrongArguments(t *testing.T) {
	for _, s := range []string{"", "\x05", "\x80", "\x80\x80\x80\x80\x80\x80"} {
		for _, width := range []int{math.MinInt, -64, -32, -1, 0, 1, 7, 31, 33, 63, 65, 128, math.MaxInt} {
			checkReadAs(t, s, 0, width)
		}
		for _, at := range []int{math.MinInt, -1, len(s) + 1, len(s) + 2, math.MaxInt} {
			checkRead(t, s, at)
			checkReadAs(t, s, at, 33)
		}
	}
	for _, x := range []struct{ at, bits int }{{0, 31}, {0, 0}, {-1, 32}, {2, 64}, {math.MaxInt, 64}} {
		if n, behind, err := U("\x05", x.at, x.bits); n != 0 || behind != 0 || err != api.ErrArg {
			t.Errorf("U at %d of %d: %d, %d, %v", x.at, x.bits, n, behind, err)
		}
		if n, behind, err := S("\x05", x.at, x.bits); n != 0 || behind != 0 || err != api.ErrArg {
			t.Errorf("S at %d of %d: %d, %d, %v", x.at, x.bits, n, behind, err)
		}
	}
}

func TestReadsOfAllShortTexts(t *testing.T) {
	checkRead(t, "", 0)
	for a := range 256 {
		checkRead(t, string([]byte{byte(a)}), 0)
		for b := range 256 {
			checkRead(t, string([]byte{byte(a), byte(b)}), 0)
		}
	}
}

func TestReadsOfEveryLastByte(t *testing.T) {
	for count := range 12 {
		for _, fill := range []string{"\x80", "\xff", "\xaa"} {
			for last := range 256 {
				s := "ab" + strings.Repeat(fill, count) + string([]byte{byte(last)})
				checkRead(t, s, 2)
				checkRead(t, s+"\x01", 2)
			}
		}
	}
}

func TestReadsFromAnyPlace(t *testing.T) {
	state := uint64(1)
	below := func(n uint64) int { // a fixed mix of bytes, the same at each run
		state = state*6364136223846793005 + 1442695040888963407
		return int(state >> 33 % n)
	}
	for range 2000 {
		b := make([]byte, below(24))
		for i := range b {
			b[i] = byte(below(256) | below(2)*128)
		}
		for at := -1; at <= len(b)+1; at++ {
			checkRead(t, string(b), at)
		}
	}
}

// P1.4

func TestWhatIsPutIsRead(t *testing.T) {
	for _, n := range edgesU() {
		s := PutU(n)
		for _, width := range []int{32, 64} {
			got, behind, err := U("xy"+s+"\xff", 2, width)
			if width == 32 && n > math.MaxUint32 {
				if got != 0 || behind != 0 || err != api.ErrLeb {
					t.Errorf("U of %d, 32 bits: %d, %d, %v", n, got, behind, err)
				}
			} else if got != n || behind != 2+len(s) || err != api.OK {
				t.Errorf("U of %d, %d bits: %d, %d, %v", n, width, got, behind, err)
			}
		}
	}
	for _, n := range edgesS() {
		s := PutS(n)
		for _, width := range []int{32, 64} {
			got, behind, err := S("xy"+s+"\xff", 2, width)
			if width == 32 && n != int64(int32(n)) {
				if got != 0 || behind != 0 || err != api.ErrLeb {
					t.Errorf("S of %d, 32 bits: %d, %d, %v", n, got, behind, err)
				}
			} else if got != n || behind != 2+len(s) || err != api.OK {
				t.Errorf("S of %d, %d bits: %d, %d, %v", n, width, got, behind, err)
			}
		}
	}
}

func TestWhatIsReadIsPutInNoMoreBytes(t *testing.T) {
	for count := range 10 {
		for _, fill := range []string{"\x80", "\xff", "\xc0", "\xbf"} {
			for last := range 128 {
				s := strings.Repeat(fill, count) + string([]byte{byte(last)})
				if n, behind, err := U(s, 0, 64); err == api.OK && len(PutU(n)) > behind {
					t.Errorf("U of %x is put as %x", s, PutU(n))
				}
				if n, behind, err := S(s, 0, 64); err == api.OK && len(PutS(n)) > behind {
					t.Errorf("S of %x is put as %x", s, PutS(n))
				}
			}
		}
	}
}

// P1.5

func TestWhatIsCutOffIsRefused(t *testing.T) {
	var all []string
	for _, n := range edgesU() {
		all = append(all, PutU(n))
	}
	for _, n := range edgesS() {
		all = append(all, PutS(n))
	}
	for _, s := range all {
		for end := range len(s) {
			for _, width := range []int{32, 64} {
				if n, behind, err := U("xy"+s[:end], 2, width); n != 0 || behind != 0 || err != api.ErrLeb {
					t.Errorf("U(%x, %d bits): %d, %d, %v", s[:end], width, n, behind, err)
				}
				if n, behind, err := S("xy"+s[:end], 2, width); n != 0 || behind != 0 || err != api.ErrLeb {
					t.Errorf("S(%x, %d bits): %d, %d, %v", s[:end], width, n, behind, err)
				}
			}
		}
	}
}

func FuzzReads(f *testing.F) {
	f.Add("\x80\x00", 0)
	f.Add("\xff\xff\xff\xff\x0f", 0)
	f.Fuzz(func(t *testing.T, s string, at int) {
		checkRead(t, s, at)
	})
}
