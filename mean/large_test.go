package mean

import (
	"fmt"
	"slices"
	"strings"
	"testing"

	"athanor/api"
	"athanor/ints"
)

// wantEnd asks for a program with that fuel, without the second reading, which calls itself deeper than Go may.
func wantEnd(t *testing.T, p api.Program, inputs []int, fuel int, want api.Result, wantSteps int) {
	t.Helper()
	got, fault := Run(p, inputs, fuel)
	steps := Steps(p, inputs, fuel)
	if !sameResult(got, want) || steps != wantSteps || fault != (api.Fault{}) {
		t.Errorf("%s\nof %v, %d: %s, %v, not %s", cut(brief(p)), inputs, fuel, cut(told(got, steps)), fault, cut(told(want, wantSteps)))
	}
}

// TestNeverStops: programs that never stop, with little fuel and with all that there may be.
func TestNeverStops(t *testing.T) {
	t.Parallel()
	const decls = "type s = S (s -> int); type r 'a = R (r 'a -> 'a); type e = E int (e -> e); "
	for _, s := range []string{
		"let rec f x = f x in fun l -> f 1",
		"let rec f x = f x in f",
		"let rec f x = f (x + 1) in fun l -> f 1",
		"let rec f x = 1 + f x in fun l -> f 1",
		"let rec f x = f x + 1 in fun l -> f 1",
		"let rec f x = f (f x) in fun l -> f 1",
		"let rec f x = let y = f x in y in fun l -> f 1",
		"let rec f x = case f x of y -> y end in fun l -> f 1",
		"let rec f x = Cons 1 (f x) in fun l -> f 1",
		"let rec f x = print (f x); 1 in fun l -> f 1",
		"let rec f x = fun y -> f y x in fun l -> f 1 2",
		"let rec f l = case l of Nil -> f (Cons 1 Nil) | Cons x _ -> f (Cons (x + 1) l) end in f",
		"let rec f x = (fun g -> g x) f in fun l -> f 1",
		"let rec f g = fun x -> g (f g) x in fun l -> f (fun h -> h) 1",
		"let rec f x = if x < f x then 1 else 2 in fun l -> f 1",
		decls + "let d = fun x -> case x of S f -> f x end in fun l -> d (S d)",
		decls + "let d = fun x -> case x of S f -> 1 + f x end in fun l -> d (S d)",
		decls + "fun l -> let fix = fun g -> let d = fun x -> case x of R h -> g (fun v -> h x v) end in d (R d) in fix (fun f -> fun n -> f (n + 1)) 0",
		decls + "let rec run x = case x of E n f -> run (f x) end in fun l -> run (E 1 (fun x -> x))",
	} {
		p := mustRead(s)
		for _, fuel := range []int{0, 1, 2, 3, 10, 1000} {
			r, steps, fault := checkAll(t, p, upTo(3), fuel)
			if r.End != api.RunFuel || steps != fuel || fault != (api.Fault{}) {
				t.Errorf("%s, %d: %s, %v", s, fuel, told(r, steps), fault)
			}
		}
		wantEnd(t, p, nil, api.MaxEval, api.Result{End: api.RunFuel}, api.MaxEval)
	}
}

// TestNeverStopsWriting: what was written with less fuel is written with more, up to the most.
func TestNeverStopsWriting(t *testing.T) {
	t.Parallel()
	p := mustRead("let rec f x = let y = (fun z -> print z; z + 1) x in f (y * 3) in fun l -> f 1")
	had := api.Result{End: api.RunFuel}
	for _, fuel := range []int{0, 1, 2, 3, 4, 5, 50, 51, 999, 4096, 8191, 8192, 8193, 8194, 8195, 8196, 30000, api.MaxEval} {
		r, _, _ := checkAll(t, p, nil, fuel)
		checkMore(t, p, had, r)
		had = r
		if fuel > 8195 && (r.End != api.RunLong || len(r.Writes) != api.MaxTrace) {
			t.Errorf("%d: %s", fuel, cut(told(r, 0)))
		}
	}
}

// deepBody is a call within so many layers: what there is ahead of it, and what behind.
func deepBody(ahead, behind string, layers int) string {
	return strings.Repeat(ahead, layers) + "f (x - 1)" + strings.Repeat(behind, layers)
}

// TestDeep: as many calls in one another as the fuel lets there be.
func TestDeep(t *testing.T) {
	t.Parallel()
	const most = api.MaxEval - 2
	for _, n := range []int{0, 1, 2, 1000, 20000, most - 1, most} {
		p := mustRead("let rec f x = if x == 0 then 0 else 1 + f (x - 1) in fun l -> case l of Nil -> 0 | Cons x _ -> f x end")
		r, steps, fault := checkAll(t, p, []int{n}, api.MaxEval)
		if r.End != api.RunDone || !slices.Equal(r.Shows, []int{n}) || steps != n+2 || fault != (api.Fault{}) {
			t.Errorf("%d: %s, %v", n, cut(told(r, steps)), fault)
		}
	}
	sum := most * (most + 1) / 2
	for s, want := range map[string]int{
		"let rec f x = if x == 0 then 0 else x + f (x - 1) in fun l -> f %d":                                                      sum,
		"let rec f x = if x == 0 then 0 else f (x - 1) + x in fun l -> f %d":                                                      sum,
		"let rec f x = if x == 0 then 0 else let y = f (x - 1) in x + y in fun l -> f %d":                                         sum,
		"let rec f x = case x of 0 -> 0 | _ -> case f (x - 1) of y -> y + x end end in fun l -> f %d":                             sum,
		"let rec f x = if x == 0 then 0 else (case Cons (f (x - 1)) Nil of Cons y _ -> y + x | Nil -> 0 end) in fun l -> f %d":    sum,
		"type p = P int int; let rec f x = if x == 0 then 0 else case P x (f (x - 1)) of P x y -> y + x end in fun l -> f %d":     sum,
		"let rec f x = if x == 0 then True else if f (x - 1) then False else True in fun l -> let b = f %d in if b then 1 else 0": 1,
	} {
		r, steps, fault := checkAll(t, mustRead(fmt.Sprintf(s, most)), nil, api.MaxEval)
		if r.End != api.RunDone || !slices.Equal(r.Shows, []int{ints.Wrap(want)}) || steps != api.MaxEval || fault != (api.Fault{}) {
			t.Errorf("%s: %s, %v", s, cut(told(r, steps)), fault)
		}
	}
}

// TestDeepLayers: likewise, with many expressions that wait in each of the calls.
func TestDeepLayers(t *testing.T) {
	t.Parallel()
	const layers, most = 60, api.MaxEval - 2
	for _, x := range []struct {
		ahead, behind string
		each          int
	}{
		{"1 + (", ")", 1},
		{"(", " - 1)", -1},
		{"let x = ", " in x + 2", 2},
		{"case ", " of y -> y + 3 end", 3},
	} {
		p := mustRead("let rec f x = if x == 0 then 7 else " + deepBody(x.ahead, x.behind, layers) + " in fun l -> case l of Nil -> 0 | Cons x _ -> f x end")
		for _, n := range []int{0, 3, 50} {
			if r, _, fault := checkAll(t, p, []int{n}, 1000); r.End != api.RunDone || !slices.Equal(r.Shows, []int{n*layers*x.each + 7}) || fault != (api.Fault{}) {
				t.Errorf("%s of %d: %s, %v", brief(p), n, told(r, 0), fault)
			}
		}
		wantEnd(t, p, []int{most}, api.MaxEval, api.Result{End: api.RunDone, Shows: []int{ints.Wrap(most*layers*x.each + 7)}}, api.MaxEval)
	}
}

// TestDeepValues: values and functions that were made of one another as often as the fuel lets them be.
func TestDeepValues(t *testing.T) {
	t.Parallel()
	const decls = "type s = Z | S s; "
	for s, want := range map[string]int{
		decls + "let rec make n = if n == 0 then Z else S (make (n - 1)) in let rec size s = case s of Z -> 0 | S r -> 1 + size r end in fun l -> size (make 30000)":                             30000,
		decls + "let rec make n = fun s -> if n == 0 then s else make (n - 1) (S s) in let rec size s = fun n -> case s of Z -> n | S r -> size r (n + 1) end in fun l -> size (make 15000 Z) 0": 15000,
		"let rec make n = fun f -> if n == 0 then f else make (n - 1) (fun x -> f (x + 1)) in fun l -> make 20000 (fun x -> x) 5":                                                                20005,
		"let rec sum n = fun k -> if n == 0 then k 0 else sum (n - 1) (fun v -> k (v + n)) in fun l -> sum 20000 (fun v -> v)":                                                                   200010000,
		"let rec make n = if n == 0 then Nil else Cons n (make (n - 1)) in let rec sum l = case l of Nil -> 0 | Cons x r -> x + sum r end in fun l -> sum (make 30000)":                          450015000,
	} {
		r, _, fault := checkAll(t, mustRead(s), nil, api.MaxEval)
		if r.End != api.RunDone || !slices.Equal(r.Shows, []int{want}) || fault != (api.Fault{}) {
			t.Errorf("%s: %s, %v", s, cut(told(r, 0)), fault)
		}
	}
	r, _, _ := checkAll(t, mustRead(decls+"let rec make n = if n == 0 then Z else S (make (n - 1)) in fun l -> make 60000"), nil, api.MaxEval)
	if !sameResult(r, api.Result{End: api.RunLong}) {
		t.Error(cut(told(r, 0)))
	}
}

// TestLargePrograms: as many names around as may be, as many branches, an expression as large as may be.
func TestLargePrograms(t *testing.T) {
	t.Parallel()
	const layers = 200
	var lets strings.Builder
	for i := range layers {
		fmt.Fprintf(&lets, "let x%d = %d in ", i, i)
	}
	p := mustRead("fun l -> " + lets.String() + "x0 - x1 * x199 + x100")
	if r, _, _ := checkAll(t, p, nil, 5); !slices.Equal(r.Shows, []int{-99}) {
		t.Error(told(r, 0))
	}
	p = mustRead("fun l -> " + strings.Repeat("let x = 1 in ", 40) + strings.Repeat("print 5; ", 200) + "l")
	if r, _, _ := checkAll(t, p, nil, 5); len(r.Writes) != 200 {
		t.Error(told(r, 0))
	}
	var branches strings.Builder
	for i := range 300 {
		fmt.Fprintf(&branches, "%d -> %d | ", i*7, i)
	}
	p = mustRead("fun l -> case l of Nil -> 0 | Cons x _ -> case x of " + branches.String() + "y -> y * y end end")
	for i := range 300 {
		for n, want := range map[int]int{i * 7: i, i*7 + 1: (i*7 + 1) * (i*7 + 1)} {
			if r, _, _ := checkAll(t, p, []int{n}, 5); !slices.Equal(r.Shows, []int{want}) {
				t.Errorf("%d: %s", n, told(r, 0))
			}
		}
	}
	p = mustRead("let rec f x = if x == 0 then 1 else f (x - 1" + strings.Repeat(" + (1 - 1)", 240) + ") in fun l -> f 3000")
	if r, steps, _ := checkAll(t, p, nil, api.MaxEval); steps != 3002 || !slices.Equal(r.Shows, []int{1}) {
		t.Error(told(r, steps))
	}
}
