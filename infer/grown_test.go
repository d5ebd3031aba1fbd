package infer

import (
	"math/rand"
	"testing"

	"athanor/api"
	"athanor/parse"
)

// TestGrown: programs of all kinds of types, with now and then something of another type.
func TestGrown(t *testing.T) {
	t.Parallel()
	r := rand.New(rand.NewSource(16))
	counts := map[api.Errno]int{}
	places, types := map[int]int{}, map[string]int{}
	for i := range 5000 {
		g := &grower{r: r, room: 1 + r.Intn(120), odd: []int{1 << 30, 300, 60, 15}[i%4]}
		p := g.grow()
		s, fault := checkAll(t, p)
		if g.odd == 1<<30 && fault != (api.Fault{}) {
			t.Fatalf("%s\n%v, though nothing is wrong", brief(p), fault)
		}
		counts[fault.Code]++
		places[fault.At]++
		types[s]++
	}
	for code, least := range map[api.Errno]int{api.OK: 1500, api.ErrUnify: 1000, api.ErrOccurs: 5, api.ErrMain: 300} {
		if counts[code] < least {
			t.Errorf("%v: %d", code, counts[code])
		}
	}
	if len(places) < 100 || len(types) < 80 {
		t.Errorf("%d places, %d types", len(places), len(types))
	}
}

func FuzzGrown(f *testing.F) {
	for i := range 20 {
		f.Add(int64(i), 10*i, 1+i*i)
	}
	f.Fuzz(func(t *testing.T, seed int64, room, odd int) {
		r := rand.New(rand.NewSource(seed))
		g := &grower{r: r, room: min(room, 1000), odd: max(2, odd)}
		p := g.grow()
		checkAll(t, p)
		checkExpanded(t, r, p)
		checkRenamed(t, r, p)
		checkUnused(t, r, p, typed())
	})
}

func FuzzTexts(f *testing.F) {
	for _, s := range samples() {
		f.Add(s)
	}
	f.Fuzz(func(t *testing.T, s string) {
		// Of a text that is refused there is an empty program.
		p, _, _ := parse.Parse(s)
		checkAll(t, p)
	})
}
