package mean

import (
	"fmt"
	"slices"
	"testing"

	"athanor/api"
	"athanor/parse"
	"athanor/show"
)

func mustRead(s string) api.Program {
	p, at, err := parse.Parse(s)
	if err != api.OK {
		panic(fmt.Sprintf("%.300s: %v at %d", s, err, at))
	}
	return p
}

// brief is a program as it is written, or as it lies there, cut short.
func brief(p api.Program) string {
	s, err := show.Program(p)
	if err != api.OK {
		s = fmt.Sprint(p)
	}
	return cut(s)
}

func cut(s string) string {
	if len(s) > 1500 {
		return s[:1500] + " .."
	}
	return s
}

func sameResult(a, b api.Result) bool {
	return a.End == b.End && slices.Equal(a.Writes, b.Writes) && slices.Equal(a.Shows, b.Shows)
}

// told is a result as the tests have it: the end, the steps, what was written, what is shown.
func told(r api.Result, steps int) string {
	ends := []string{"none", "done", "div", "fuel", "long"}
	s := fmt.Sprint("end ", r.End)
	if 0 <= r.End && r.End < len(ends) {
		s = ends[r.End]
	}
	if r.Shows == nil {
		return fmt.Sprint(s, " ", steps, " ", r.Writes)
	}
	return fmt.Sprint(s, " ", steps, " ", r.Writes, " ", r.Shows)
}

// checkAll holds what is told of a program against the second reading, and tells it.
func checkAll(t *testing.T, p api.Program, inputs []int, fuel int) (api.Result, int, api.Fault) {
	t.Helper()
	got, fault := Run(p, inputs, fuel)
	steps := Steps(p, inputs, fuel)
	want, wantSteps, wantFault := plainRun(p, inputs, fuel)
	if !sameResult(got, want) || steps != wantSteps || fault != wantFault {
		t.Fatalf("%s\nof %.200s, %d: %s, %v, not %s, %v", brief(p), fmt.Sprint(inputs), fuel, cut(told(got, steps)), fault, cut(told(want, wantSteps)), wantFault)
	}
	if checked := Check(p); checked != plainCheck(p) || checked != (api.Fault{}) && checked != fault {
		t.Fatalf("%s\nis refused by %v, not %v", brief(p), checked, plainCheck(p))
	}
	if fault != (api.Fault{}) && (!sameResult(got, api.Result{}) || steps != 0) {
		t.Fatalf("%s\nhas %v, but tells %s", brief(p), fault, cut(told(got, steps)))
	}
	return got, steps, fault
}

// asked is a program, its input, and what is told of it with a fuel of 1000.
type asked struct {
	s      string
	inputs []int
	want   string
}

// checkAsked asks for programs without a fault, and follows what follows.
func checkAsked(t *testing.T, l []asked) {
	t.Helper()
	for _, x := range l {
		p := mustRead(x.s)
		r, steps, fault := checkAll(t, p, x.inputs, 1000)
		if got := told(r, steps); got != x.want || fault != (api.Fault{}) {
			t.Errorf("%s\nof %v: %s, %v, not %s", cut(x.s), x.inputs, cut(got), fault, cut(x.want))
		}
		checkFuels(t, p, x.inputs, min(steps, 12)+2)
		checkFollows(t, p, x.inputs, 1000)
	}
}

// bodies is checkAsked of what stands behind "fun l ->", without an input.
func bodies(t *testing.T, l ...string) {
	t.Helper()
	for i := 0; i < len(l); i += 2 {
		checkAsked(t, []asked{{"fun l -> " + l[i], nil, l[i+1]}})
	}
}
