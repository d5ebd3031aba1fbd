package memory

import (
	"bytes"
	"math"
	"math/big"
	"testing"

	"athanor/api"
)

// This file holds the chapter's words once more: a memory that notes the bytes that were put, one by one, and reckons places with numbers of any size.

// plain is such a memory; a byte that was never put is 0.
type plain struct {
	pages, most int
	put         map[int]byte
}

func plainNew(l api.Limits) (*plain, api.Errno) {
	if l.Min < 0 || l.Min > 32 {
		return nil, api.ErrRoom
	}
	most := 32
	if l.Has && l.Max < 32 {
		most = l.Max
	}
	if l.Has && l.Max < l.Min {
		most = l.Min
	}
	return &plain{l.Min, most, map[int]byte{}}, api.OK
}

func (p *plain) count() int {
	if p == nil {
		return 0
	}
	return p.pages
}

func (p *plain) grow(n uint64) int {
	if p == nil {
		return -1
	}
	sum := new(big.Int).SetUint64(n)
	sum.Add(sum, big.NewInt(int64(p.pages)))
	if sum.Cmp(big.NewInt(int64(p.most))) > 0 {
		return -1
	}
	had := p.pages
	p.pages = int(sum.Int64())
	return had
}

// has tells whether n bytes from at on are there.
func (p *plain) has(at, n *big.Int) bool {
	end := new(big.Int).Add(at, n)
	return at.Sign() >= 0 && n.Sign() >= 0 && end.Cmp(big.NewInt(int64(p.count())*65536)) <= 0
}

func (p *plain) hasWord(at uint64, size int) bool {
	known := map[int]int{1: 1, 2: 1, 4: 1, 8: 1}
	return known[size] == 1 && p.has(new(big.Int).SetUint64(at), big.NewInt(int64(size)))
}

func (p *plain) hasText(at, n int) bool {
	return p.has(big.NewInt(int64(at)), big.NewInt(int64(n)))
}

func (p *plain) load(at uint64, size int) (uint64, bool) {
	if !p.hasWord(at, size) {
		return 0, false
	}
	v := uint64(0)
	for i := size - 1; i >= 0; i-- {
		v = 256*v + uint64(p.put[int(at)+i])
	}
	return v, true
}

func (p *plain) store(at uint64, size int, v uint64) bool {
	if !p.hasWord(at, size) {
		return false
	}
	for i := range size {
		p.put[int(at)+i] = byte(v % 256)
		v /= 256
	}
	return true
}

func (p *plain) text(at, n int) (string, bool) {
	if !p.hasText(at, n) {
		return "", false
	}
	out := make([]byte, n)
	for i := range out {
		out[i] = p.put[at+i]
	}
	return string(out), true
}

func (p *plain) fill(at int, s string) bool {
	if !p.hasText(at, len(s)) {
		return false
	}
	for i := range len(s) {
		p.put[at+i] = s[i]
	}
	return true
}

func (p *plain) fork() *plain {
	if p == nil {
		return nil
	}
	put := map[int]byte{}
	for at, b := range p.put {
		put[at] = b
	}
	return &plain{p.pages, p.most, put}
}

// whole is all bytes that there are.
func (p *plain) whole() []byte {
	if p == nil {
		return nil
	}
	out := make([]byte, p.pages*65536)
	for at, b := range p.put {
		out[at] = b
	}
	return out
}

// pair is a memory, and the plain one that it is held against.
type pair struct {
	m *Memory
	p *plain
}

func newPair(t *testing.T, l api.Limits) pair {
	t.Helper()
	m, err := New(l)
	p, want := plainNew(l)
	if err != want || (m == nil) != (p == nil) {
		t.Fatalf("New(%v): %v, want %v", l, err, want)
	}
	return pair{m, p}
}

// checkWhole holds every page and byte against the plain one's.
func (x pair) checkWhole(t *testing.T) {
	t.Helper()
	if got := x.m.Pages(); got != x.p.count() {
		t.Fatalf("%d pages, want %d", got, x.p.count())
	}
	want := x.p.whole()
	got, ok := x.m.Text(0, len(want))
	if !ok || !bytes.Equal([]byte(got), want) {
		t.Fatalf("the %d bytes differ (%v)", len(want), ok)
	}
}

func (x pair) checkGrow(t *testing.T, n uint64) {
	t.Helper()
	if got, want := x.m.Grow(n), x.p.grow(n); got != want {
		t.Errorf("Grow(%d): %d, want %d", n, got, want)
	}
	if got, want := x.m.Pages(), x.p.count(); got != want {
		t.Errorf("Grow(%d): %d pages, want %d", n, got, want)
	}
}

func (x pair) checkLoad(t *testing.T, at uint64, size int) {
	t.Helper()
	got, ok := x.m.Load(at, size)
	if want, is := x.p.load(at, size); got != want || ok != is {
		t.Errorf("Load(%d, %d): %#x, %v, want %#x, %v", at, size, got, ok, want, is)
	}
}

func (x pair) checkStore(t *testing.T, at uint64, size int, v uint64) {
	t.Helper()
	if got, want := x.m.Store(at, size, v), x.p.store(at, size, v); got != want {
		t.Errorf("Store(%d, %d, %#x): %v, want %v", at, size, v, got, want)
	}
}

func (x pair) checkText(t *testing.T, at, n int) {
	t.Helper()
	got, ok := x.m.Text(at, n)
	if want, is := x.p.text(at, n); got != want || ok != is {
		t.Errorf("Text(%d, %d): %d bytes, %v, want %d, %v", at, n, len(got), ok, len(want), is)
	}
}

func (x pair) checkFill(t *testing.T, at int, s string) {
	t.Helper()
	if got, want := x.m.Fill(at, s), x.p.fill(at, s); got != want {
		t.Errorf("Fill(%d, %d bytes): %v, want %v", at, len(s), got, want)
	}
}

// sizes are those that a number may have, and others, among them such as are right in their lower bits.
var sizes = []int{1, 2, 4, 8, 0, 3, 5, 6, 7, 9, 10, 12, 16, 24, 32, 64, 128, 257, 1<<32 + 4, -1, -2, -4, -8, math.MinInt, math.MinInt + 1, math.MaxInt}

// placesOf are the places at which a memory of that many pages begins and ends, a page does, and numbers do.
func placesOf(pages int) []uint64 {
	var out []uint64
	for _, edge := range []uint64{0, 65536, uint64(pages) * 65536, 1 << 21, 1 << 31, 1 << 32, 1 << 63} {
		for d := range uint64(19) {
			out = append(out, edge+d-9) // about 0 it goes round, to those about 2^64
		}
	}
	return out
}

// chance tells numbers that look like any, the same each time.
type chance uint64

func (c *chance) next() uint64 {
	x := uint64(*c)
	x ^= x << 13
	x ^= x >> 7
	x ^= x << 17
	*c = chance(x)
	return x
}

func (c *chance) below(n int) int { return int(c.next() >> 1 % uint64(n)) }

func one[T any](c *chance, list []T) T { return list[c.below(len(list))] }

func (c *chance) text(n int) string {
	out := make([]byte, n)
	for i := range out {
		out[i] = byte(c.next() >> 32)
	}
	return string(out)
}

// place is most often one at which something begins or ends.
func (c *chance) place(pages int) uint64 {
	if pages > 0 && c.below(3) == 0 {
		return uint64(c.below(pages * 65536))
	}
	return one(c, placesOf(pages))
}

// step does one thing to one of the memories, and tells them all.
func (c *chance) step(t *testing.T, all []pair) []pair {
	t.Helper()
	x := one(c, all)
	at := c.place(x.p.count())
	switch c.below(12) {
	case 0:
		x.checkGrow(t, one(c, []uint64{0, 0, 1, 1, 2, 31, 32, 33, 1<<63 - 1, 1 << 63, 1<<64 - 1}))
	case 1:
		x.checkText(t, int(at), one(c, []int{0, 1, 8, 70000, -1, math.MinInt, math.MaxInt}))
	case 2, 3:
		x.checkFill(t, int(at), c.text(c.below(20)))
	case 4:
		if len(all) < 5 {
			return append(all, pair{x.m.Fork(), x.p.fork()})
		}
	case 5, 6, 7, 8:
		x.checkStore(t, at, one(c, sizes[:c.below(len(sizes))+1]), c.next())
	default:
		x.checkLoad(t, at, one(c, sizes[:c.below(len(sizes))+1]))
	}
	return all
}

// checkSteps does many things to a memory and what is forked of it.
func checkSteps(t *testing.T, seed uint64, l api.Limits, steps int) {
	t.Helper()
	c := chance(seed | 1)
	all := []pair{newPair(t, l)}
	for range steps {
		all = c.step(t, all)
	}
	for _, x := range all {
		x.checkWhole(t)
	}
}
