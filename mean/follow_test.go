package mean

import (
	"slices"
	"testing"

	"athanor/api"
	"athanor/parse"
	"athanor/show"
)

// checkFuels: with more fuel a result is the same, unless it was RunFuel; then what was written goes on.
func checkFuels(t *testing.T, p api.Program, inputs []int, most int) {
	t.Helper()
	var had api.Result
	for fuel := range most + 1 {
		r, steps, _ := checkAll(t, p, inputs, fuel)
		if fuel > 0 {
			checkMore(t, p, had, r)
		}
		// The fuel is used up where there would be one step more.
		if starved := Steps(p, inputs, fuel+1) > fuel; steps > fuel || starved != (r.End == api.RunFuel) {
			t.Fatalf("%s\nof %v, %d: %s", brief(p), inputs, fuel, cut(told(r, steps)))
		}
		had = r
	}
}

func checkMore(t *testing.T, p api.Program, less, more api.Result) {
	t.Helper()
	if less.End != api.RunFuel {
		if !sameResult(less, more) {
			t.Fatalf("%s\nwith more fuel: %s, not %s", brief(p), cut(told(more, 0)), cut(told(less, 0)))
		}
		return
	}
	n := len(less.Writes)
	if len(less.Shows) > 0 || len(more.Writes) < n || !slices.Equal(more.Writes[:n], less.Writes) {
		t.Fatalf("%s\nwith more fuel: %s, though it was %s", brief(p), cut(told(more, 0)), cut(told(less, 0)))
	}
}

// checkFollows: a program written and read again, bound by a let, called within a function, means the same.
func checkFollows(t *testing.T, p api.Program, inputs []int, fuel int) {
	t.Helper()
	want, fault := Run(p, inputs, fuel)
	if fault != (api.Fault{}) {
		return
	}
	steps := Steps(p, inputs, fuel)
	if s, err := show.Program(p); err == api.OK {
		if q, _, err := parse.Parse(s); err == api.OK {
			checkMeans(t, q, inputs, fuel, want, steps)
		}
	}
	checkMeans(t, inLet(p), inputs, fuel, want, steps)
	checkMeans(t, inCall(p), inputs, fuel+1, want, steps+1)
}

// checkMeans: a program comes to that result, unless it has become too large.
func checkMeans(t *testing.T, p api.Program, inputs []int, fuel int, want api.Result, wantSteps int) {
	t.Helper()
	if !parse.Check(p) {
		return
	}
	got, steps, fault := checkAll(t, p, inputs, fuel)
	if !sameResult(got, want) || steps != wantSteps || fault != (api.Fault{}) {
		t.Fatalf("%s\nof %v: %s, %v, not %s", brief(p), inputs, cut(told(got, steps)), fault, cut(told(want, wantSteps)))
	}
}

// inLet is "let main = .. in main".
func inLet(p api.Program) api.Program {
	name := api.Expr{Kind: api.ExVar, Name: "main"}
	return api.Program{Decls: p.Decls, Main: api.Expr{Kind: api.ExLet, Name: "main", Args: []api.Expr{p.Main, name}}}
}

// inCall is "fun input -> .. input": a step more, ahead of all others.
func inCall(p api.Program) api.Program {
	name := api.Expr{Kind: api.ExVar, Name: "input"}
	call := api.Expr{Kind: api.ExApp, Args: []api.Expr{p.Main, name}}
	return api.Program{Decls: p.Decls, Main: api.Expr{Kind: api.ExFun, Name: "input", Args: []api.Expr{call}}}
}
