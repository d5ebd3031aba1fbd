package mean

import (
	"math/rand"
	"testing"

	"athanor/api"
	"athanor/parse"
)

// numbers is some for an input.
func numbers(r *rand.Rand) []int {
	var l []int
	for range r.Intn(6) {
		n := r.Intn(8) - 2
		if r.Intn(9) == 0 {
			n = int(r.Uint64())
		}
		l = append(l, n)
	}
	return l
}

// checkGrown grows a program, and tells its result; parse.Check may refuse it, as too large.
func checkGrown(t *testing.T, r *rand.Rand, room int) (api.Result, bool) {
	t.Helper()
	p := newGrower(r, room).grow()
	if !parse.Check(p) {
		return api.Result{}, false
	}
	inputs, fuel := numbers(r), []int{1000, 1000, 5000, 20}[r.Intn(4)]
	got, steps, fault := checkAll(t, p, inputs, fuel)
	if fault != (api.Fault{}) {
		t.Fatalf("%s\n%v, though nothing is wrong", brief(p), fault)
	}
	checkFuels(t, p, inputs, min(steps, 2)+1)
	checkFollows(t, p, inputs, fuel)
	return got, true
}

// TestGrown: programs of all kinds of types.
func TestGrown(t *testing.T) {
	t.Parallel()
	r := rand.New(rand.NewSource(18))
	ends, written, shown, refused := map[int]int{}, map[int]int{}, map[int]int{}, 0
	for range 250 {
		got, ok := checkGrown(t, r, 1+r.Intn(90))
		if !ok {
			refused++
			continue
		}
		ends[got.End]++
		written[len(got.Writes)]++
		shown[len(got.Shows)]++
	}
	for end, least := range map[int]int{api.RunDone: 150, api.RunDiv: 5, api.RunFuel: 10} {
		if ends[end] < least {
			t.Errorf("end %d: %d", end, ends[end])
		}
	}
	if refused > 10 || len(written) < 12 || len(shown) < 15 {
		t.Errorf("%d refused, %d, %d", refused, len(written), len(shown))
	}
}

func FuzzGrown(f *testing.F) {
	for i := range 20 {
		f.Add(int64(i), 10*i)
	}
	f.Fuzz(func(t *testing.T, seed int64, room int) {
		checkGrown(t, rand.New(rand.NewSource(seed)), min(room, 400))
	})
}

func FuzzTexts(f *testing.F) {
	for _, s := range []string{
		"fun l -> l", "fun l -> 1 / 0", "let rec f x = f x in fun l -> f 1", "fun l -> y", "fun l -> 1 + Nil", "fun l -> case l of Nil -> 1 end", "1",
		down, "type p 'a 'b = P 'a 'b; fun l -> case P l 1 of P (Cons x _) y -> x - y | P Nil y -> y end",
		"let rec map f = fun l -> case l of Nil -> Nil | Cons x r -> Cons (f x) (map f r) end in fun l -> print 1; map (fun x -> if x < 1 then print x else Unit) l",
		"type s = S (s -> int); let d = fun x -> case x of S f -> f x end in fun l -> d (S d)",
	} {
		f.Add(s, 100, 5, 1<<30)
	}
	f.Fuzz(func(t *testing.T, s string, fuel, a, b int) {
		p, _, _ := parse.Parse(s)
		fuel = min(fuel, 2000)
		checkAll(t, p, []int{a, b}, fuel)
		checkFollows(t, p, []int{a, b}, fuel)
	})
}
