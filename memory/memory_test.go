package memory

import (
	"math"
	"strings"
	"testing"

	"athanor/api"
)

// made is a memory of these limits, which must be right.
func made(t *testing.T, l api.Limits) *Memory {
	t.Helper()
	m, err := New(l)
	if m == nil || err != api.OK {
		t.Fatalf("New(%v): %v, %v", l, m, err)
	}
	return m
}

// marked is a pair of that many pages, each byte about each edge of a page other than 0 and than those beside it.
func marked(t *testing.T, pages int) pair {
	t.Helper()
	x := newPair(t, api.Limits{Min: pages})
	for page := range pages {
		first, last := "", ""
		for i := range 40 {
			first += string([]byte{byte(1 + page + 5*i)})
			last += string([]byte{byte(130 + page + 3*i)})
		}
		x.checkFill(t, page*65536, first)
		x.checkFill(t, (page+1)*65536-len(last), last)
	}
	x.checkWhole(t)
	return x
}

// allZero tells whether all bytes from at on up to the memory's end are 0.
func allZero(m *Memory, at int) bool {
	n := m.Pages()*65536 - at
	s, ok := m.Text(at, n)
	return ok && s == strings.Repeat("\x00", n)
}

// The chapter's example.

func TestExample(t *testing.T) {
	m := made(t, api.Limits{Min: 1})
	if v, ok := m.Load(65532, 4); v != 0 || !ok {
		t.Errorf("Load(65532, 4): %d, %v", v, ok)
	}
	if v, ok := m.Load(65533, 4); v != 0 || ok {
		t.Errorf("Load(65533, 4): %d, %v", v, ok)
	}
	if had := m.Grow(31); had != 1 {
		t.Errorf("Grow(31): %d", had)
	}
	if had := m.Grow(1); had != -1 {
		t.Errorf("Grow(1): %d", had)
	}
}

// P7.1

func TestNewHasMinPagesOfZeros(t *testing.T) {
	for pages := range 33 {
		m := made(t, api.Limits{Min: pages})
		if m.Pages() != pages || !allZero(m, 0) {
			t.Errorf("Min %d: %d pages", pages, m.Pages())
		}
		if s, ok := m.Text(pages*65536, 1); s != "" || ok {
			t.Errorf("Min %d: there is a byte behind the pages", pages)
		}
	}
}

func TestNewRefuses(t *testing.T) {
	for _, pages := range []int{-1, -2, -32, math.MinInt, 33, 34, 64, 65536, 1<<32 + 1, math.MaxInt} {
		for _, l := range []api.Limits{{Min: pages}, {Min: pages, Max: 1, Has: true}, {Min: pages, Max: pages, Has: true}, {Min: pages, Max: math.MaxInt, Has: true}} {
			if m, err := New(l); m != nil || err != api.ErrRoom {
				t.Errorf("New(%v): %v, %v", l, m, err)
			}
		}
	}
}

// checkMost grows memories of these limits up to as many pages as there may be, and beyond.
func checkMost(t *testing.T, l api.Limits, most int) {
	t.Helper()
	m := made(t, l)
	more := uint64(most - l.Min)
	if had := m.Grow(more + 1); had != -1 || m.Pages() != l.Min {
		t.Errorf("%v: Grow(%d): %d, %d pages", l, more+1, had, m.Pages())
	}
	if had := m.Grow(more); had != l.Min || m.Pages() != most {
		t.Errorf("%v: Grow(%d): %d, %d pages", l, more, had, m.Pages())
	}
	if had := m.Grow(1); had != -1 || m.Pages() != most {
		t.Errorf("%v: Grow(1) at the end: %d, %d pages", l, had, m.Pages())
	}
	if had := m.Grow(0); had != most || m.Pages() != most {
		t.Errorf("%v: Grow(0) at the end: %d, %d pages", l, had, m.Pages())
	}
}

func TestMost(t *testing.T) {
	for _, x := range []struct{ least, max, most int }{
		{0, 0, 0}, {0, 1, 1}, {0, 31, 31}, {0, 32, 32}, {0, 33, 32}, {0, 65536, 32}, {0, math.MaxInt, 32},
		{0, -1, 0}, {0, math.MinInt, 0},
		{1, 0, 1}, {1, 1, 1}, {1, 2, 2}, {1, 3, 3}, {1, -1, 1},
		{2, 1, 2}, {2, -5, 2}, {7, 6, 7}, {7, 7, 7}, {7, 8, 8},
		{31, 30, 31}, {31, 31, 31}, {31, 32, 32}, {31, 33, 32},
		{32, 0, 32}, {32, 31, 32}, {32, 32, 32}, {32, 33, 32}, {32, math.MinInt, 32}, {32, math.MaxInt, 32},
	} {
		checkMost(t, api.Limits{Min: x.least, Max: x.max, Has: true}, x.most)
		checkMost(t, api.Limits{Min: x.least, Max: x.max}, 32)
	}
}

func TestMostIsThePlainOnes(t *testing.T) {
	for _, least := range []int{0, 1, 2, 15, 31, 32} {
		for most := -2; most <= 35; most++ {
			for _, has := range []bool{false, true} {
				l := api.Limits{Min: least, Max: most, Has: has}
				p, _ := plainNew(l)
				checkMost(t, l, p.most)
			}
		}
	}
}

func TestNewsAreApart(t *testing.T) {
	a, b := made(t, api.Limits{Min: 1}), made(t, api.Limits{Min: 1})
	a.Fill(0, "abc")
	a.Grow(1)
	if b.Pages() != 1 || !allZero(b, 0) {
		t.Error("what becomes of one memory changes another")
	}
	if c := made(t, api.Limits{Min: 1}); c.Pages() != 1 || !allZero(c, 0) {
		t.Error("a memory begins with what another had")
	}
}

func TestNil(t *testing.T) {
	x := pair{}
	if x.m.Pages() != 0 {
		t.Errorf("%d pages", x.m.Pages())
	}
	for _, n := range []uint64{0, 1, 32, 33, math.MaxInt64, 1 << 63, math.MaxUint64} {
		if had := x.m.Grow(n); had != -1 || x.m.Pages() != 0 {
			t.Errorf("Grow(%d): %d", n, had)
		}
	}
	if x.m.Fork() != nil {
		t.Error("a fork of nil is a memory")
	}
	for _, at := range placesOf(0) {
		for _, size := range sizes {
			x.checkLoad(t, at, size)
			x.checkStore(t, at, size, math.MaxUint64)
			x.checkText(t, int(at), size)
		}
		x.checkFill(t, int(at), "")
		x.checkFill(t, int(at), "a")
	}
	if s, ok := x.m.Text(0, 0); s != "" || !ok || !x.m.Fill(0, "") {
		t.Error("nothing at 0 is there, in a nil memory too")
	}
	if _, ok := x.m.Text(1, 0); ok || x.m.Fill(1, "") {
		t.Error("1 is beyond a nil memory's end")
	}
}

func TestNoPages(t *testing.T) {
	x := newPair(t, api.Limits{})
	for _, at := range placesOf(0) {
		for _, size := range sizes {
			x.checkLoad(t, at, size)
			x.checkStore(t, at, size, math.MaxUint64)
			x.checkText(t, int(at), size)
		}
		x.checkFill(t, int(at), "")
		x.checkFill(t, int(at), "a")
	}
	f := x.m.Fork()
	if f == nil || f.Pages() != 0 || f.Grow(1) != 0 || f.Pages() != 1 || x.m.Pages() != 0 {
		t.Error("a memory of no pages is forked, and may grow")
	}
}

// P7.2

func TestGrowRefuses(t *testing.T) {
	for _, l := range []api.Limits{{}, {Min: 1}, {Min: 31}, {Min: 32}, {Max: 0, Has: true}, {Min: 3, Max: 5, Has: true}, {Min: 3, Max: 1, Has: true}} {
		x := newPair(t, l)
		x.checkFill(t, 0, "stays")
		for _, n := range []uint64{33, 34, 64, 65535, 65536, 1 << 31, math.MaxUint32, 1 << 32, 1<<32 + 1, 1 << 48, 1<<48 + 1, math.MaxInt64 - 1, math.MaxInt64, 1 << 63, 1<<63 + 1} {
			x.checkGrow(t, n)
		}
		// Those that come to few pages where they go round.
		for n := range uint64(70) {
			x.checkGrow(t, -n-1)
		}
		x.checkWhole(t)
	}
}

func TestGrowByOneEachTime(t *testing.T) {
	x := newPair(t, api.Limits{})
	for i := range 32 {
		if had := x.m.Grow(1); had != i || x.p.grow(1) != i {
			t.Errorf("Grow(1): %d, want %d", had, i)
		}
		x.checkFill(t, i*65536+i, "page")
		x.checkFill(t, (i+1)*65536-3, "end")
	}
	x.checkGrow(t, 1)
	x.checkWhole(t)
}

func TestGrowKeepsTheBytesAndAddsZeros(t *testing.T) {
	for _, pages := range []int{0, 1, 2, 5, 31} {
		for n := uint64(1); pages+int(n) <= 32; n = 2*n + 1 {
			x := marked(t, pages)
			x.checkGrow(t, n)
			x.checkWhole(t)
			if !allZero(x.m, pages*65536) {
				t.Errorf("%d pages, %d more: not all 0", pages, n)
			}
			end := uint64(pages+int(n)) * 65536
			x.checkStore(t, end-8, 8, 0x0102030405060708)
			x.checkStore(t, end-7, 8, math.MaxUint64)
			// Over what was the end.
			x.checkStore(t, uint64(pages)*65536-min(4, uint64(pages)*65536), 8, 0x1112131415161718)
			x.checkWhole(t)
		}
	}
}

func TestGrowByNothing(t *testing.T) {
	for _, pages := range []int{0, 1, 32} {
		x := marked(t, pages)
		x.checkGrow(t, 0)
		x.checkWhole(t)
		// Else a run that asks for nothing at each step would take far more time than its fuel.
		if n := testing.AllocsPerRun(10, func() { x.m.Grow(0); x.m.Grow(33); x.m.Grow(math.MaxUint64) }); n != 0 {
			t.Errorf("%d pages: Grow takes memory %v times, though nothing is added", pages, n)
		}
	}
}

// P7.3

func TestLoadAndStoreAtEveryEdge(t *testing.T) {
	for _, pages := range []int{1, 2, 32} {
		x := marked(t, pages)
		for _, at := range placesOf(pages) {
			for _, size := range sizes {
				x.checkLoad(t, at, size)
			}
		}
		for i, at := range placesOf(pages) {
			for _, size := range sizes {
				x.checkStore(t, at, size, uint64(i+1)*0x0807060504030201)
				x.checkText(t, int(at), 16)
			}
		}
		x.checkWhole(t)
	}
}

func TestTheLowestByteIsFirst(t *testing.T) {
	m := made(t, api.Limits{Min: 1})
	if !m.Fill(100, "\x01\x02\x03\x84\x05\x06\x07\x88") {
		t.Fatal("Fill")
	}
	for _, x := range []struct {
		size int
		v    uint64
		text string
	}{
		{1, 0x01, "\x01"},
		{2, 0x0201, "\x01\x02"},
		{4, 0x84030201, "\x01\x02\x03\x84"},
		{8, 0x8807060584030201, "\x01\x02\x03\x84\x05\x06\x07\x88"},
	} {
		if v, ok := m.Load(100, x.size); v != x.v || !ok {
			t.Errorf("Load(100, %d): %#x, %v", x.size, v, ok)
		}
		if ok := m.Store(200, x.size, x.v); !ok {
			t.Errorf("Store(200, %d): %v", x.size, ok)
		}
		if s, ok := m.Text(200, x.size); s != x.text || !ok {
			t.Errorf("Store(200, %d): %x, %v", x.size, s, ok)
		}
	}
}

func TestTheLastPlaceAndOneBeyond(t *testing.T) {
	for _, size := range []int{1, 2, 4, 8} {
		m := made(t, api.Limits{Min: 3})
		last := uint64(3*65536 - size)
		if !m.Store(last, size, 0x0102030405060708) {
			t.Errorf("Store at the last place, of %d", size)
		}
		if _, ok := m.Load(last, size); !ok {
			t.Errorf("Load at the last place, of %d", size)
		}
		before, _ := m.Text(0, 3*65536)
		for beyond := uint64(1); beyond < 20; beyond++ {
			if v, ok := m.Load(last+beyond, size); v != 0 || ok {
				t.Errorf("Load(%d, %d): %d, %v", last+beyond, size, v, ok)
			}
			if m.Store(last+beyond, size, math.MaxUint64) {
				t.Errorf("Store(%d, %d)", last+beyond, size)
			}
		}
		if after, _ := m.Text(0, 3*65536); after != before || m.Pages() != 3 {
			t.Errorf("a store of %d that is refused changes something", size)
		}
	}
}

func TestPlacesDoNotGoRound(t *testing.T) {
	x := marked(t, 1)
	for d := range uint64(20) {
		for _, at := range []uint64{-d - 1, 1<<63 - 10 + d, 1<<32 - 10 + d, 1<<32 + d, 1<<62 + d} {
			for _, size := range []int{1, 2, 4, 8} {
				if v, ok := x.m.Load(at, size); v != 0 || ok {
					t.Errorf("Load(%d, %d): %d, %v", at, size, v, ok)
				}
				if x.m.Store(at, size, math.MaxUint64) {
					t.Errorf("Store(%d, %d)", at, size)
				}
			}
		}
	}
	x.checkWhole(t)
}

func TestOtherSizes(t *testing.T) {
	x := marked(t, 1)
	for _, size := range []int{-1, 0, 3, 5, 6, 7, 9, 16, 32, 64, 257, 258, 260, 264, 1<<32 + 1, 1<<32 + 8, -8, math.MinInt, math.MinInt + 8, math.MaxInt} {
		for _, at := range []uint64{0, 1, 100, 65520, 65528, 65535, 65536, 1<<64 - 8, 1<<64 - 1} {
			if v, ok := x.m.Load(at, size); v != 0 || ok {
				t.Errorf("Load(%d, %d): %d, %v", at, size, v, ok)
			}
			if x.m.Store(at, size, math.MaxUint64) {
				t.Errorf("Store(%d, %d)", at, size)
			}
		}
	}
	x.checkWhole(t)
}

func TestTextAndFillAtEveryEdge(t *testing.T) {
	for _, pages := range []int{1, 3} {
		x := marked(t, pages)
		lengths := []int{0, 1, 2, 7, 65535, 65536, 65537, pages * 65536, pages*65536 + 1, -1, -65536, math.MinInt, math.MinInt + 1, math.MaxInt - 1, math.MaxInt}
		for _, at := range placesOf(pages) {
			for _, n := range lengths {
				x.checkText(t, int(at), n)
			}
			// What reaches just up to the end, and one beyond.
			x.checkText(t, int(at), pages*65536-int(at))
			x.checkText(t, int(at), pages*65536-int(at)+1)
		}
		for i, at := range placesOf(pages) {
			x.checkFill(t, int(at), "")
			x.checkFill(t, int(at), "filled"[i%6:])
			x.checkText(t, int(at)-9, 24)
		}
		x.checkWhole(t)
	}
}

func TestTextAndFillOfAll(t *testing.T) {
	x := newPair(t, api.Limits{Min: 2})
	s := strings.Repeat("all of the bytes", 2*65536/16)
	x.checkFill(t, 1, s)
	x.checkFill(t, 0, s+"s")
	x.checkFill(t, -1, s)
	x.checkWhole(t)
	if !allZero(x.m, 0) {
		t.Error("a Fill that is refused changes something")
	}
	x.checkFill(t, 0, s)
	x.checkWhole(t)
	x.checkText(t, 0, 2*65536+1)
	x.checkText(t, 1, 2*65536)
	x.checkText(t, 1, 2*65536-1)
}

func TestNothingAtTheEndAndBeyond(t *testing.T) {
	for _, pages := range []int{0, 1, 32} {
		m := made(t, api.Limits{Min: pages})
		for _, x := range []struct {
			at int
			ok bool
		}{{0, true}, {pages * 65536, true}, {pages*65536 + 1, false}, {-1, false}, {math.MinInt, false}, {math.MaxInt, false}} {
			if s, ok := m.Text(x.at, 0); s != "" || ok != x.ok {
				t.Errorf("%d pages: Text(%d, 0): %q, %v", pages, x.at, s, ok)
			}
			if ok := m.Fill(x.at, ""); ok != x.ok {
				t.Errorf("%d pages: Fill(%d, nothing): %v", pages, x.at, ok)
			}
		}
	}
}

func TestSumsThatGoRound(t *testing.T) {
	x := marked(t, 1)
	for _, y := range [][2]int{{math.MaxInt, 1}, {math.MaxInt, 2}, {1, math.MaxInt}, {65536, math.MaxInt}, {math.MaxInt, math.MaxInt}, {1 << 62, 1 << 62}, {-1, 1}, {-1, 2}, {1, -1}, {65536, -1}, {-5, 10}, {math.MinInt, math.MinInt}, {math.MinInt, math.MaxInt}} {
		if s, ok := x.m.Text(y[0], y[1]); s != "" || ok {
			t.Errorf("Text(%d, %d): %d bytes, %v", y[0], y[1], len(s), ok)
		}
	}
	for _, at := range []int{math.MaxInt, math.MaxInt - 1, math.MaxInt - 4, math.MinInt, -1, -4, -5} {
		if x.m.Fill(at, "round") {
			t.Errorf("Fill(%d, ..)", at)
		}
	}
	x.checkWhole(t)
}

func TestTextsStay(t *testing.T) {
	m := made(t, api.Limits{Min: 1})
	m.Fill(10, "first")
	s, _ := m.Text(10, 5)
	m.Fill(10, "other")
	m.Store(10, 8, 0)
	m.Grow(1)
	if s != "first" {
		t.Errorf("a text that was told is %q now", s)
	}
}

// checkAlike holds what is forked against what it came of.
func checkAlike(t *testing.T, a, b *Memory) {
	t.Helper()
	if a == b || a.Pages() != b.Pages() {
		t.Fatalf("%d pages, %d pages", a.Pages(), b.Pages())
	}
	s, _ := a.Text(0, a.Pages()*65536)
	if u, ok := b.Text(0, b.Pages()*65536); u != s || !ok {
		t.Error("the bytes differ")
	}
}

func TestForkIsAlike(t *testing.T) {
	for _, pages := range []int{0, 1, 4, 32} {
		x := marked(t, pages)
		checkAlike(t, x.m, x.m.Fork())
		checkAlike(t, x.m, x.m.Fork().Fork())
	}
}

func TestForkMayGrowAsFar(t *testing.T) {
	for _, l := range []api.Limits{{}, {Min: 1}, {Min: 32}, {Min: 1, Max: 3, Has: true}, {Min: 2, Max: 1, Has: true}, {Min: 1, Max: 40, Has: true}, {Max: -1, Has: true}} {
		for n := range uint64(3) {
			m, p := made(t, l), newPair(t, l).p
			if had, want := m.Grow(n), p.grow(n); had != want {
				t.Errorf("%v: Grow(%d): %d, want %d", l, n, had, want)
			}
			f := pair{m.Fork(), p.fork()}
			left := uint64(p.most - p.pages)
			f.checkGrow(t, left+1)
			f.checkGrow(t, left)
			f.checkGrow(t, 1)
			f.checkGrow(t, 0)
			if m.Pages() != p.pages {
				t.Errorf("%v: what was forked has %d pages, want %d", l, m.Pages(), p.pages)
			}
		}
	}
}

// disturb stores, fills and grows, and leaves no byte about the edges as it was.
func (x pair) disturb(t *testing.T) {
	t.Helper()
	end := uint64(x.p.count()) * 65536
	x.checkStore(t, 0, 8, 0x9192939495969798)
	x.checkStore(t, end-4, 4, 0xa1a2a3a4)
	x.checkStore(t, 500, 1, 7)
	x.checkStore(t, 600, 2, 0x0708)
	x.checkFill(t, 20, "disturbed")
	x.checkFill(t, int(end)-13, "disturbed")
	x.checkGrow(t, 1)
	x.checkFill(t, int(end)-3, "over the edge")
	x.checkGrow(t, 2)
	x.checkStore(t, end+3*65536-8, 8, math.MaxUint64)
}

func TestForksChangesAreItsOwn(t *testing.T) {
	for _, forkFirst := range []bool{true, false} {
		x := marked(t, 2)
		f := pair{x.m.Fork(), x.p.fork()}
		changed, other := x, f
		if forkFirst {
			changed, other = f, x
		}
		changed.disturb(t)
		other.checkWhole(t)
		changed.checkWhole(t)
		other.checkStore(t, 0, 8, 0x5152535455565758)
		other.checkFill(t, 2*65536-5, "other")
		other.checkGrow(t, 1)
		other.checkFill(t, 2*65536, "other")
		changed.checkWhole(t)
		other.checkWhole(t)
	}
}

func TestForksOfOneAreApart(t *testing.T) {
	x := marked(t, 1)
	a, b := pair{x.m.Fork(), x.p.fork()}, pair{x.m.Fork(), x.p.fork()}
	c := pair{a.m.Fork(), a.p.fork()}
	for _, y := range []pair{a, x, c} {
		y.disturb(t)
		for _, z := range []pair{x, a, b, c} {
			z.checkWhole(t)
		}
	}
}

// P7.4

func TestWhatIsStoredIsLoaded(t *testing.T) {
	for _, v := range []uint64{0, 1, 0x80, 0xff, 0x100, 0x8000, 0xffff, 0x10000, 0x80000000, 0xffffffff, 1 << 32, 1 << 63, 0x1122334455667788, 0xf1f2f3f4f5f6f7f8, math.MaxUint64} {
		for size, cut := range map[int]uint64{1: 0xff, 2: 0xffff, 4: 0xffffffff, 8: math.MaxUint64} {
			for _, behind := range []string{"\x00", "\xa5", "\xff"} {
				m := made(t, api.Limits{Min: 2})
				m.Fill(0, strings.Repeat(behind, 2*65536))
				for _, at := range []uint64{0, 1, 2, 3, 5, 7, 4096, 65536 - 8, 65536 - 5, 65536 - 1, 65536, uint64(2*65536 - size)} {
					if !m.Store(at, size, v) {
						t.Errorf("Store(%d, %d, %#x)", at, size, v)
					}
					if got, ok := m.Load(at, size); got != v&cut || !ok {
						t.Errorf("Store(%d, %d, %#x): %#x, %v", at, size, v, got, ok)
					}
				}
			}
		}
	}
}

func TestBytesBesideStay(t *testing.T) {
	for _, behind := range []string{"\x00", "\xa5", "\xff"} {
		for _, size := range []int{1, 2, 4, 8} {
			for _, at := range []int{0, 1, 77, 65536 - size, 65535, 65536, 2*65536 - size} {
				m := made(t, api.Limits{Min: 2})
				m.Fill(0, strings.Repeat(behind, 2*65536))
				m.Store(uint64(at), size, 0x1122334455667788)
				want := strings.Repeat(behind, at) + "\x88\x77\x66\x55\x44\x33\x22\x11"[:size] + strings.Repeat(behind, 2*65536-at-size)
				if s, ok := m.Text(0, 2*65536); s != want || !ok {
					t.Errorf("Store(%d, %d) in bytes %x: others changed", at, size, behind)
				}
			}
		}
	}
}

func TestStoresOverEachOther(t *testing.T) {
	x := marked(t, 1)
	for _, first := range []int{1, 2, 4, 8} {
		for _, second := range []int{1, 2, 4, 8} {
			for d := range uint64(19) {
				x.checkStore(t, 1000, first, 0x1112131415161718)
				x.checkStore(t, 991+d, second, 0xe1e2e3e4e5e6e7e8)
				for _, size := range []int{1, 2, 4, 8} {
					for at := uint64(985); at < 1020; at++ {
						x.checkLoad(t, at, size)
					}
				}
			}
		}
	}
}

// P7.5

func TestLoadsInHalves(t *testing.T) {
	x := marked(t, 3)
	for _, at := range placesOf(3) {
		eight, ok := x.m.Load(at, 8)
		if !ok {
			continue
		}
		low, lowOk := x.m.Load(at, 4)
		high, highOk := x.m.Load(at+4, 4)
		if !lowOk || !highOk || eight != low+high<<32 {
			t.Errorf("at %d: %#x, but %#x and %#x", at, eight, low, high)
		}
	}
	if v, _ := x.m.Load(65536-4, 8); v == 0 || v>>32 == 0 || v<<32 == 0 {
		t.Errorf("nothing was told of these halves: %#x", v)
	}
}

// All of it, against the plain memory.

func TestSteps(t *testing.T) {
	for seed := range uint64(150) {
		for _, l := range []api.Limits{{}, {Min: 1}, {Min: 1, Max: 4, Has: true}, {Min: 2, Max: 1, Has: true}, {Min: 3, Max: 3}} {
			checkSteps(t, seed*2+1, l, 60)
		}
	}
	checkSteps(t, 1, api.Limits{Min: 33}, 60) // nil, as New answers it
}

func TestTheSameEachTime(t *testing.T) {
	for range 3 {
		checkSteps(t, 99, api.Limits{Min: 1}, 300)
	}
}

func FuzzSteps(f *testing.F) {
	f.Add(uint64(1), 1, 4, true)
	f.Add(uint64(7), 32, 0, false)
	f.Add(uint64(9), -1, 0, false)
	f.Fuzz(func(t *testing.T, seed uint64, least, most int, has bool) {
		checkSteps(t, seed, api.Limits{Min: least, Max: most, Has: has}, 60)
	})
}

func FuzzPlaces(f *testing.F) {
	f.Add(uint64(65533), 4, uint64(1), "a")
	f.Add(uint64(1<<64-1), 8, uint64(1<<63), "")
	f.Fuzz(func(t *testing.T, at uint64, size int, v uint64, s string) {
		x := marked(t, 2)
		x.checkStore(t, at, size, v)
		x.checkLoad(t, at, size)
		x.checkFill(t, int(at), s)
		x.checkText(t, int(at), size)
		x.checkText(t, size, int(at))
		x.checkGrow(t, v)
		x.checkWhole(t)
	})
}
