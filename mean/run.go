package mean

import (
	"sync"

	"athanor/api"
)

// evaluator begins an expression of its kind, or goes on with it.
type evaluator func(r *run, f frame)

// frame is an expression that is being evaluated, what is bound around it, and how many of its parts have come to their values.
type frame struct {
	e      *api.Expr
	around *bound
	parts  int
}

// run is an evaluation. What waits stands in a list of its own, for it may be deeper than calls in Go may be: each step can leave as many expressions waiting as stand in one another in a function.
type run struct {
	making     sync.Once
	evaluators [api.ExPrint + 1]evaluator

	tags    map[string]int
	pending stack[frame]
	values  stack[value] // of parts that are done

	fuel, steps   int
	end           int // 0 up to the end
	writes, shows []int
}

// evaluator is that of a kind.
func (r *run) evaluator(kind int) evaluator {
	r.making.Do(func() { r.evaluators = makeEvaluators() })
	return r.evaluators[kind]
}

// begin has an expression evaluated next.
func (r *run) begin(e *api.Expr, around *bound) {
	r.pending.push(frame{e, around, 0})
}

// goOn evaluates until nothing waits, or an end.
func (r *run) goOn() {
	for r.end == 0 && r.pending.size > 0 {
		f := r.pending.pop()
		r.evaluator(f.e.Kind)(r, f)
	}
}

// have tells whether the first n parts of an expression have their values; else the next of them is evaluated, and the expression asked again behind it.
func (r *run) have(f frame, n int) bool {
	if f.parts == n {
		return true
	}
	part := &f.e.Args[f.parts]
	f.parts++
	r.pending.push(f)
	r.begin(part, f.around)
	return false
}

// tell is the value of the expression that is evaluated.
func (r *run) tell(v value) {
	r.values.push(v)
}

// take is the last value that was told.
func (r *run) take() value {
	return r.values.pop()
}

// apply has the body of a function evaluated next: a step.
func (r *run) apply(fun, arg value) {
	if r.steps == r.fuel {
		r.end = api.RunFuel
		return
	}
	r.steps++
	e, around, name := fun.more.fun, fun.more.around, fun.more.fun.Name
	if e.Kind == api.ExRec {
		// The parameter comes behind: where both names are alike, it is meant.
		around, name = around.with(name, fun), e.Param
	}
	r.begin(&e.Args[0], around.with(name, arg))
}

// write writes a number.
func (r *run) write(n int) {
	if len(r.writes) == api.MaxTrace {
		r.end = api.RunLong
		return
	}
	r.writes = append(r.writes, n)
}

// finish ends the evaluation with a value.
func (r *run) finish(v value) {
	l, ok := shows(v, nil)
	if !ok {
		r.end = api.RunLong
		return
	}
	r.end, r.shows = api.RunDone, l
}
