package host

import (
	"slices"
	"sync"
	"testing"

	"athanor/api"
	"athanor/wast"
)

// This file is about many runs of one Binary (P9.3), and about what is made once for all of them.

// sideBySide calls a function that many times at one time, and waits for all of them.
func sideBySide(count int, do func(n int)) {
	var all sync.WaitGroup
	begin := make(chan int)
	for n := range count {
		all.Go(func() {
			<-begin
			do(n)
		})
	}
	close(begin)
	all.Wait()
}

// manyAsks are runs of work that change all that can be changed, come to every end, and are refused.
func manyAsks() []ask {
	script := api.Script{Inputs: []int{3, -4, 5}, Force: []bool{true, false, true}}
	other := api.Script{Inputs: []int{70}, Force: []bool{false, true}}
	list := []ask{
		{"listen", nil, script, 99}, {"listen", nil, other, 99}, {"listen", nil, api.Script{}, 99}, {"read", nil, other, 99},
		asks("peek", 99), asks("peek", 11), asks("peek", 0), asks("wide", 99, -1), asks("write", 99, 44), asks("sum", 99, 1<<30), asks("triple", 99, 2),
		asks("spin", 500), asks("spin", 20), asks("deep", 9999), asks("writes", 99999), asks("shows", 99999), asks("stop", 99),
		asks("divide", 99, 0), asks("divide", 99, 2), asks("over", 99, -1), asks("bounds", 99, 65533), asks("bounds", 99, 65532),
		asks("none", 99), asks("peek", 99, 1), asks("peek", -1), {"peek", nil, api.Script{Inputs: make([]int, 257)}, 99}, {"peek", nil, api.Script{Force: make([]bool, 65537)}, 99},
	}
	for n := range 4 {
		list = append(list, ask{"step", []int{n}, script, 99}, ask{"step", []int{n}, other, 99}, ask{"step", []int{n}, api.Script{}, 30 + n})
	}
	for n := range 9 {
		list = append(list, asks("indirect", 99, n))
	}
	return list
}

// expected is a run with what it answers, when it is the only one.
type expected struct {
	ask
	want reply
	came bool // to a Call
}

func expect(t *testing.T, s string) []expected {
	var out []expected
	ends, errs := map[int]int{}, map[api.Errno]int{}
	for _, a := range manyAsks() {
		want, came := a.plainly(s)
		out = append(out, expected{a, want, came})
		ends[want.out.End]++
		errs[want.err]++
	}
	if len(ends) != 6 || errs[api.ErrArg] == 0 || errs[api.ErrExport] == 0 {
		t.Fatalf("the runs come to %v and %v alone", ends, errs)
	}
	return out
}

// count is how many of the runs come to a Call.
func count(list []expected) int {
	n := 0
	for _, e := range list {
		if e.came {
			n++
		}
	}
	return n
}

// checkUnchanged wants a Binary's module to be what its bytes are, still.
func checkUnchanged(t *testing.T, b *Binary, s string) {
	t.Helper()
	if m, _ := plainLoad(s); !wast.Same(b.module, m) {
		t.Error("the module is another one now")
	}
}

// Every run behind every other one, all of one Binary, answers what it answers alone.
func TestRunsOneBehindTheOther(t *testing.T) {
	s := written(work())
	b := loaded(t, s)
	list := expect(t, s)
	runs := 0
	for _, first := range list {
		for _, second := range list {
			checkReply(t, first.String(), first.of(b), first.want)
			checkReply(t, second.String()+" behind "+first.String(), second.of(b), second.want)
			runs += count([]expected{first, second})
			checkRuns(t, second.String()+" behind "+first.String(), b, runs)
		}
	}
	checkUnchanged(t, b, s)
}

// Runs at one time, of one Binary, each worker with another order of them.
func TestRunsSideBySide(t *testing.T) {
	const workers, rounds = 16, 4
	s := written(work())
	b := loaded(t, s)
	list := expect(t, s)
	sideBySide(workers, func(n int) {
		had := 0
		for i := range rounds * len(list) {
			e := list[(n*3+i*(2*n+1))%len(list)]
			checkReply(t, e.String()+" at one time", e.of(b), e.want)
			runs := b.Runs()
			if runs < had {
				t.Errorf("%d runs, and %d ahead of that", runs, had)
			}
			had = runs
		}
	})
	want := 0
	for n := range workers {
		for i := range rounds * len(list) {
			want += count(list[(n*3+i*(2*n+1))%len(list):][:1])
		}
	}
	checkRuns(t, "behind all", b, want)
	checkUnchanged(t, b, s)
}

// Runs at one time that hear different scripts: none hears another's.
func TestScriptsSideBySide(t *testing.T) {
	b := loaded(t, written(work()))
	sideBySide(16, func(n int) {
		script := api.Script{Inputs: []int{n, 100 * n, n}, Force: []bool{n&1 == 1, n&2 == 2}}
		global, second := 6, 0
		if n&1 == 1 {
			global = 50
		}
		if n&2 == 2 {
			second = 1
		}
		steps := 11
		if n&1 == 1 {
			steps = 13
		}
		for range 50 {
			checkReply(t, "listen", ask{"listen", nil, script, 99}.of(b), heard(done(steps, 101*n, global, 1, second), nil, 2, 2))
		}
	})
	checkRuns(t, "scripts", b, 16*50)
}

// A run by Run of the bytes, by a Binary of its own, and by one that has been through many is the same.
func TestRunOfBytesIsLoadAndRun(t *testing.T) {
	s := written(work())
	shared := loaded(t, s)
	for _, e := range expect(t, s) {
		checkReply(t, e.String()+" of the bytes", e.ofBytes(s), e.want)
		b := loaded(t, s)
		checkReply(t, e.String()+" of its own Binary", e.of(b), e.want)
		checkRuns(t, e.String(), b, count([]expected{e}))
		checkReply(t, e.String(), e.of(shared), e.want)
	}
	for _, c := range notNew() {
		a := ask{"peek", nil, c.script, 99}
		checkReply(t, c.what, a.ofBytes(c.s), a.of(loaded(t, c.s)))
	}
}

// The module is ready when Load tells it; no run reads the bytes again, and they are not kept.
func TestModuleIsMadeReadyOnce(t *testing.T) {
	s := written(work())
	b := loaded(t, s)
	b.once.Do(func() { t.Error("it was not ready") })
	if b.text != "" {
		t.Error("the bytes are kept")
	}
	b.text = "no module"
	want := done(17, 123)
	for range 3 {
		checkReply(t, "peek", asks("peek", 99).of(b), want)
	}
	checkRuns(t, "peek", b, 3)

	// The bytes are gone with the first reading: a second one would find no module.
	b = &Binary{text: s}
	sideBySide(16, func(int) {
		checkReply(t, "peek at one time", asks("peek", 99).of(b), want)
	})
	checkRuns(t, "peek at one time", b, 16)
	checkUnchanged(t, b, s)
}

// What is handed in is not changed, its spare room included, and what becomes of it later changes nothing.
func TestWhatIsHandedIn(t *testing.T) {
	s := written(work())
	b := loaded(t, s)
	args := []int{3, 91, 92}
	inputs := []int{3, 4, 5, 93, 94}
	force := []bool{true, false, true, true}
	a := ask{"step", args[:1], api.Script{Inputs: inputs[:3], Force: force[:3]}, 99}
	want, _ := a.plainly(s)
	for range 3 {
		checkReply(t, "step", a.of(b), want)
		checkReply(t, "step of the bytes", a.ofBytes(s), want)
	}
	if !slices.Equal(args, []int{3, 91, 92}) || !slices.Equal(inputs, []int{3, 4, 5, 93, 94}) || !slices.Equal(force, []bool{true, false, true, true}) {
		t.Error(args, inputs, force)
	}
	got := a.of(b)
	args[0], inputs[0], force[0] = 8, 9, false
	checkReply(t, "step", got, want)
	next, _ := a.plainly(s)
	checkReply(t, "another step", a.of(b), next)
	if sameReply(next, want) {
		t.Error("the steps are alike")
	}
}

// What is told is the receiver's: whatever becomes of it, the next run is as it would be.
func TestOutcomesShareNothing(t *testing.T) {
	s := written(work())
	b := loaded(t, s)
	a := ask{"step", []int{3}, api.Script{Inputs: []int{3}, Force: []bool{true}}, 99}
	want, _ := a.plainly(s)
	kept := a.of(b)
	for range 20 {
		got := a.of(b)
		checkReply(t, "step", got, want)
		for i, list := range [][]int{got.out.Results, got.out.Writes, got.out.Shows} {
			for j := range list[:cap(list)] {
				list[:cap(list)][j] = 1000 + i
			}
		}
		if slices.ContainsFunc(got.out.Results, func(n int) bool { return n != 1000 }) || slices.ContainsFunc(got.out.Writes, func(n int) bool { return n != 1001 }) {
			t.Error("two lists share memory")
		}
	}
	checkReply(t, "the first", kept, want)
}
