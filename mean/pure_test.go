package mean

import (
	"reflect"
	"slices"
	"strings"
	"sync"
	"testing"
	"unsafe"

	"athanor/api"
)

// copyValue is a copy that shares nothing with the value, its lists with spare room; empty ones are not nil.
func copyValue(v reflect.Value) reflect.Value {
	out := reflect.New(v.Type()).Elem()
	switch v.Kind() {
	case reflect.Struct:
		for i := range v.NumField() {
			out.Field(i).Set(copyValue(v.Field(i)))
		}
	case reflect.Slice:
		out = reflect.MakeSlice(v.Type(), 0, v.Len()+2)
		for i := range v.Len() {
			out = reflect.Append(out, copyValue(v.Index(i)))
		}
	case reflect.String:
		out.SetString(strings.Clone(v.String()))
	default:
		out.Set(v)
	}
	return out
}

func copyOf[T any](x T) T {
	return copyValue(reflect.ValueOf(x)).Interface().(T)
}

func visit(v reflect.Value, f func(reflect.Value)) {
	f(v)
	switch v.Kind() {
	case reflect.Struct:
		for i := range v.NumField() {
			visit(v.Field(i), f)
		}
	case reflect.Slice:
		for i := range v.Len() {
			visit(v.Index(i), f)
		}
	}
}

// stretch is bytes of memory.
type stretch struct{ from, to uintptr }

// memory tells where a value's lists (with their spare room) and, if asked for, its texts lie.
func memory(x any, texts bool) []stretch {
	var out []stretch
	visit(reflect.ValueOf(x), func(v reflect.Value) {
		switch {
		case v.Kind() == reflect.Slice && v.Cap() > 0:
			out = append(out, stretch{v.Pointer(), v.Pointer() + uintptr(v.Cap())*v.Type().Elem().Size()})
		case texts && v.Kind() == reflect.String && v.Len() > 0:
			from := uintptr(unsafe.Pointer(unsafe.StringData(v.String())))
			out = append(out, stretch{from, from + uintptr(v.Len())})
		}
	})
	return out
}

// apart tells whether no two of the stretches share a byte.
func apart(l []stretch) bool {
	slices.SortFunc(l, func(a, b stretch) int { return int(a.from) - int(b.from) })
	for i := 1; i < len(l); i++ {
		if l[i].from < l[i-1].to {
			return false
		}
	}
	return true
}

// spareIsZero tells whether all the spare room of a value's lists is zero.
func spareIsZero(x any) bool {
	zero := true
	visit(reflect.ValueOf(x), func(v reflect.Value) {
		if v.Kind() == reflect.Slice {
			for i := v.Len(); i < v.Cap(); i++ {
				zero = zero && v.Slice(0, v.Cap()).Index(i).IsZero()
			}
		}
	})
	return zero
}

// overwrite changes all that a value's lists hold, their spare room as well.
func overwrite(v reflect.Value) {
	switch v.Kind() {
	case reflect.Struct:
		for i := range v.NumField() {
			overwrite(v.Field(i))
		}
	case reflect.Slice:
		all := v.Slice(0, v.Cap())
		for i := range all.Len() {
			overwrite(all.Index(i))
		}
	case reflect.String:
		v.SetString("Overwritten")
	case reflect.Int:
		v.SetInt(99)
	}
}

// checkPure: the call tells the same of a copy, changes nothing of it, and shares no memory with it, nor within what it tells.
func checkPure[T, R any](t *testing.T, given T, call func(T) R) {
	t.Helper()
	want := copyOf(call(given))
	mine := copyOf(given)
	got := call(mine)
	if !reflect.DeepEqual(copyOf(got), want) {
		t.Errorf("%v, not %v", got, want)
	}
	if !reflect.DeepEqual(mine, copyOf(given)) || !spareIsZero(mine) {
		t.Errorf("%v: what was given is changed", given)
	}
	if lists := memory(got, false); !apart(append(lists, memory(mine, false)...)) {
		t.Errorf("%v: memory is shared", given)
	}
	for _, told := range memory(got, true) {
		for _, held := range memory(mine, true) {
			if told.from < held.to && held.from < told.to {
				t.Errorf("%v: memory is shared with what was given", given)
			}
		}
	}
	overwrite(reflect.ValueOf(&got).Elem())
	if !reflect.DeepEqual(mine, copyOf(given)) || !spareIsZero(mine) {
		t.Errorf("%v: what was given is changed by changing what was told", given)
	}
	if again := call(mine); !reflect.DeepEqual(copyOf(again), want) {
		t.Errorf("%v, the second time, not %v", again, want)
	}
}

// question is all that is asked of at one time.
type question struct {
	P      api.Program
	Inputs []int
	Fuel   int
}

// answers is all that is told of it.
type answers struct {
	Result         api.Result
	Fault, Checked api.Fault
	Steps          int
}

func answer(q question) answers {
	var a answers
	a.Result, a.Fault = Run(q.P, q.Inputs, q.Fuel)
	a.Checked = Check(q.P)
	a.Steps = Steps(q.P, q.Inputs, q.Fuel)
	return a
}

// questions ends in every way, and asks for what is refused.
func questions() []question {
	var l []question
	for _, s := range []string{
		"fun l -> l",
		"fun l -> print 1; print 2; Cons 3 l",
		"let x = print 1 in fun l -> print 2; 1 / 0",
		"let rec f x = print x; f (x + 1) in fun l -> f 1",
		"let rec f x = print x; Cons x (f (x + 1)) in f 1",
		"let rec n x = if x == 0 then Nil else Cons x (n (x - 1)) in fun l -> print 4; n 3000",
		"type t 'a = A 'a | B (t 'a) int; let rec f x = case x of Nil -> A 5 | Cons y r -> print y; B (f r) (y * 2) end in fun l -> f (Cons 1 l)",
		"type p 'a 'b = P 'a 'b; fun l -> let x = P l (P l l) in P x x",
		"fun l -> y",
		"fun l -> 1 + Nil",
		"fun l -> case l of Nil -> 1 end",
		"1",
	} {
		for _, inputs := range [][]int{nil, {5}, {1 << 40, -9, 1 << 30, 3}, upTo(api.MaxInputs), upTo(api.MaxInputs + 1)} {
			for _, fuel := range []int{-1, 0, 3, 300, 5000, api.MaxEval + 1} {
				l = append(l, question{mustRead(s), inputs, fuel})
			}
		}
	}
	return append(l, question{}, question{P: api.Program{Main: api.Expr{Kind: 99, Args: []api.Expr{{}, {}}}}, Fuel: 5})
}

func TestPure(t *testing.T) {
	for _, q := range questions() {
		checkPure(t, q, answer)
	}
}

// TestNoLists: lists that would be empty are nil, and so is all beside a fault.
func TestNoLists(t *testing.T) {
	for _, q := range questions() {
		r, fault := Run(q.P, q.Inputs, q.Fuel)
		if len(r.Writes) == 0 && r.Writes != nil || len(r.Shows) == 0 && r.Shows != nil || (r.End == api.RunDone) != (len(r.Shows) > 0) {
			t.Errorf("%s: %s", brief(q.P), cut(told(r, 0)))
		}
		if fault != (api.Fault{}) && !reflect.DeepEqual(r, api.Result{}) {
			t.Errorf("%s: %s, %v", brief(q.P), cut(told(r, 0)), fault)
		}
	}
}

// TestSharedParts: expressions that are one in memory, within one program and in several.
func TestSharedParts(t *testing.T) {
	one := api.Expr{Kind: api.ExInt, N: 1}
	args := []api.Expr{one, one, {Kind: api.ExVar, Name: "l"}}
	sum := api.Expr{Kind: api.ExPrim, Name: "+", Args: args[:2]}
	args[0] = api.Expr{Kind: api.ExPrim, Name: "*", Args: []api.Expr{one, {Kind: api.ExInt, N: 5}}}
	twice := api.Expr{Kind: api.ExPrim, Name: "-", Args: slices.Repeat([]api.Expr{sum}, 2)}
	p := api.Program{Main: api.Expr{Kind: api.ExFun, Name: "l", Args: []api.Expr{{Kind: api.ExCon, Name: "Cons", Args: []api.Expr{twice, args[2]}}}}}
	want := copyOf(p)
	for range 2 {
		r, steps, fault := checkAll(t, p, []int{8}, 9)
		if got := told(r, steps); got != "done 1 [] [1 0 1 8 0]" || fault != (api.Fault{}) {
			t.Error(got, fault)
		}
		if !reflect.DeepEqual(copyOf(p), want) {
			t.Error("what was given is changed")
		}
	}
}

// TestAgain: what was asked before, and told, changes nothing of what is told; neither does what is asked at the same time.
func TestAgain(t *testing.T) {
	t.Parallel()
	all := questions()
	want := make([]answers, len(all))
	for i, q := range all {
		want[i] = copyOf(answer(q))
	}
	var group sync.WaitGroup
	for range 3 {
		group.Add(1)
		go func() {
			defer group.Done()
			for i, q := range all {
				got := answer(q)
				if !reflect.DeepEqual(copyOf(got), want[i]) {
					t.Errorf("%s: %s", brief(q.P), cut(told(got.Result, got.Steps)))
				}
				overwrite(reflect.ValueOf(&got.Result).Elem())
			}
		}()
	}
	group.Wait()
	// The same names in another program have other tags.
	a, b := mustRead("type t = A | B; fun l -> Cons A (Cons B Nil)"), mustRead("type t = B | A; fun l -> Cons A (Cons B Nil)")
	for range 3 {
		for s, p := range map[string]api.Program{"done 1 [] [1 0 1 1 0]": a, "done 1 [] [1 1 1 0 0]": b} {
			r, steps, _ := checkAll(t, p, nil, 3)
			if got := told(r, steps); got != s {
				t.Errorf("%s: %s", brief(p), got)
			}
		}
	}
}
