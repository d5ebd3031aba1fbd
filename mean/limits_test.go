package mean

import (
	"fmt"
	"math"
	"slices"
	"testing"

	"athanor/api"
)

// upTo is the numbers from 1 to n.
func upTo(n int) []int {
	var l []int
	for i := range n {
		l = append(l, i+1)
	}
	return l
}

// TestInput: the list that Main is applied to.
func TestInput(t *testing.T) {
	p := mustRead("fun l -> l")
	for _, n := range []int{0, 1, 2, 3, 17, 100, api.MaxInputs - 1, api.MaxInputs} {
		var want []int
		for _, x := range upTo(n) {
			want = append(want, 1, x)
		}
		want = append(want, 0)
		r, steps, fault := checkAll(t, p, upTo(n), 5)
		if !slices.Equal(r.Shows, want) || r.End != api.RunDone || steps != 1 || fault != (api.Fault{}) {
			t.Errorf("%d: %s, %v", n, told(r, steps), fault)
		}
	}
	for _, n := range []int{api.MaxInputs + 1, api.MaxInputs + 2, 5000} {
		r, steps, fault := checkAll(t, p, upTo(n), 5)
		if fault != (api.Fault{Code: api.ErrArg}) {
			t.Errorf("%d: %s, %v", n, told(r, steps), fault)
		}
	}
	const sum = "let rec sum l = case l of Nil -> 0 | Cons x r -> x + sum r end in sum"
	checkAsked(t, []asked{
		{sum, nil, "done 1 [] [0]"},
		{sum, []int{5}, "done 2 [] [5]"},
		{sum, []int{5, -7, 100}, "done 4 [] [98]"},
		{sum, upTo(api.MaxInputs), "done 257 [] [32896]"},
		{sum, []int{1<<30 - 1, 1}, "done 3 [] [-1073741824]"},
	})
}

// TestInputWraps: numbers that are no integers go round.
func TestInputWraps(t *testing.T) {
	for _, x := range []struct{ n, want int }{
		{0, 0}, {-1, -1}, {1<<30 - 1, 1<<30 - 1}, {-1 << 30, -1 << 30},
		{1 << 30, -1 << 30}, {1<<30 + 1, -1<<30 + 1}, {-1<<30 - 1, 1<<30 - 1}, {-1<<30 - 2, 1<<30 - 2},
		{1<<31 - 1, -1}, {1 << 31, 0}, {1<<31 + 7, 7}, {-1 << 31, 0}, {-1<<31 - 7, -7},
		{1<<32 + 3, 3}, {5<<31 - 3, -3}, {math.MaxInt, -1}, {math.MinInt, 0}, {math.MinInt + 9, 9},
	} {
		checkAsked(t, []asked{
			{"fun l -> case l of Nil -> 0 | Cons x _ -> x end", []int{x.n}, fmt.Sprint("done 1 [] [", x.want, "]")},
			{"fun l -> l", []int{8, x.n, 9}, fmt.Sprint("done 1 [] [1 8 1 ", x.want, " 1 9 0]")},
			{"fun l -> case l of Cons x _ -> print x; x == " + written(x.want) + " | _ -> False end", []int{x.n}, fmt.Sprint("done 1 [", x.want, "] [1]")},
			{"fun l -> case l of Cons " + written(x.want) + " _ -> 5 | _ -> 6 end", []int{x.n}, "done 1 [] [5]"},
		})
	}
}

// written is a number as it stands in a program.
func written(n int) string {
	if n < 0 {
		return fmt.Sprint("~", -n)
	}
	return fmt.Sprint(n)
}

// down is a program whose evaluation takes the first number of its input and two steps more.
const down = "let rec f x = if x == 0 then print 5; 6 else f (x - 1) in fun l -> case l of Nil -> 7 | Cons x _ -> f x end"

// TestFuel: too little, just enough, and what there may be.
func TestFuel(t *testing.T) {
	p := mustRead(down)
	for _, x := range []struct {
		inputs []int
		fuel   int
		want   string
	}{
		{nil, 0, "fuel 0 []"},
		{nil, 1, "done 1 [] [7]"},
		{nil, 2, "done 1 [] [7]"},
		{[]int{0}, 0, "fuel 0 []"},
		{[]int{0}, 1, "fuel 1 []"},
		{[]int{0}, 2, "done 2 [5] [6]"},
		{[]int{0}, 3, "done 2 [5] [6]"},
		{[]int{10}, 11, "fuel 11 []"},
		{[]int{10}, 12, "done 12 [5] [6]"},
		{[]int{10}, api.MaxEval - 1, "done 12 [5] [6]"},
		{[]int{10}, api.MaxEval, "done 12 [5] [6]"},
		{[]int{api.MaxEval - 3}, api.MaxEval - 1, "done 65535 [5] [6]"},
		{[]int{api.MaxEval - 2}, api.MaxEval - 1, "fuel 65535 []"},
		{[]int{api.MaxEval - 2}, api.MaxEval, "done 65536 [5] [6]"},
		{[]int{api.MaxEval - 1}, api.MaxEval, "fuel 65536 []"},
		{[]int{-1}, api.MaxEval, "fuel 65536 []"},
	} {
		r, steps, fault := checkAll(t, p, x.inputs, x.fuel)
		if got := told(r, steps); got != x.want || fault != (api.Fault{}) {
			t.Errorf("%v, %d: %s, %v, not %s", x.inputs, x.fuel, got, fault, x.want)
		}
	}
	for _, fuel := range []int{-1, -2, -1000, math.MinInt, api.MaxEval + 1, api.MaxEval + 2, 1 << 20, 1 << 32, math.MaxInt} {
		for _, s := range []string{down, "fun l -> l", "let x = 1 / 0 in fun l -> l"} {
			r, steps, fault := checkAll(t, mustRead(s), nil, fuel)
			if fault != (api.Fault{Code: api.ErrArg}) {
				t.Errorf("%s, %d: %s, %v", s, fuel, told(r, steps), fault)
			}
		}
	}
}

// TestLastStep: the application to the input is a step, too; what ends without it needs none.
func TestLastStep(t *testing.T) {
	for _, x := range []struct {
		s, want0, want1, want2 string
	}{
		{"fun l -> 1", "fuel 0 []", "done 1 [] [1]", "done 1 [] [1]"},
		{"fun l -> print 1; 2", "fuel 0 []", "done 1 [1] [2]", "done 1 [1] [2]"},
		{"print 1; fun l -> print 2; 3", "fuel 0 [1]", "done 1 [1 2] [3]", "done 1 [1 2] [3]"},
		{"let x = 1 / 0 in fun l -> l", "div 0 []", "div 0 []", "div 0 []"},
		{"print 1; let x = 1 / 0 in fun l -> l", "div 0 [1]", "div 0 [1]", "div 0 [1]"},
		{"fun l -> 1 / 0", "fuel 0 []", "div 1 []", "div 1 []"},
		{"(fun x -> x) (fun l -> print 1)", "fuel 0 []", "fuel 1 []", "done 2 [1] [0]"},
		{"print 1; (fun x -> print 2; x) (fun l -> print 3)", "fuel 0 [1]", "fuel 1 [1 2]", "done 2 [1 2 3] [0]"},
		{"(fun x -> x) (let y = 1 / 0 in fun l -> l)", "div 0 []", "div 0 []", "div 0 []"},
		{"(print 1; fun x -> fun l -> 5 / x) (print 2; 0)", "fuel 0 [1 2]", "fuel 1 [1 2]", "div 2 [1 2]"},
		{"let rec f l = print 1; f l in f", "fuel 0 []", "fuel 1 [1]", "fuel 2 [1 1]"},
		{"let rec f l = print 1; f l in f Nil", "fuel 0 []", "fuel 1 [1]", "fuel 2 [1 1]"},
	} {
		for fuel, want := range []string{x.want0, x.want1, x.want2} {
			r, steps, fault := checkAll(t, mustRead(x.s), nil, fuel)
			if got := told(r, steps); got != want || fault != (api.Fault{}) {
				t.Errorf("%s, %d: %s, %v, not %s", x.s, fuel, got, fault, want)
			}
		}
	}
}

// ask is what is told of a program with that fuel: the end, the steps, how much was written, how much is shown.
func ask(t *testing.T, s string, input, fuel int) (string, api.Result) {
	t.Helper()
	r, steps, fault := checkAll(t, mustRead(s), []int{input}, fuel)
	if fault != (api.Fault{}) {
		t.Fatal(s, fault)
	}
	return told(api.Result{End: r.End}, steps) + fmt.Sprint(" ", len(r.Writes), " ", len(r.Shows)), r
}

// counted is a program whose first number of input is n.
func counted(s, main string) string {
	return s + " in fun l -> case l of Nil -> 0 | Cons n _ -> " + main + " end"
}

// TestWrites: just as many as may be, one fewer, one more; and ends behind the last.
func TestWrites(t *testing.T) {
	t.Parallel()
	const w = "let rec w n = if n == 0 then Unit else (print n; w (n - 1))"
	for _, x := range []struct {
		main string
		n    int
		want string
	}{
		{"w n; 5", 0, "done 2 [] 0 1"},
		{"w n; 5", 4095, "done 4097 [] 4095 1"},
		{"w n; 5", 4096, "done 4098 [] 4096 1"},
		{"w n; 5", 4097, "long 4098 [] 4096 0"},
		{"w n; 5", 4098, "long 4098 [] 4096 0"},
		{"w n; 5", 60000, "long 4098 [] 4096 0"},
		{"w n; print 1; 5", 4095, "done 4097 [] 4096 1"},
		{"w n; print 1; 5", 4096, "long 4098 [] 4096 0"},
		{"w n; 5 / 0", 4096, "div 4098 [] 4096 0"},
		{"w n; print (5 / 0); 6", 4096, "div 4098 [] 4096 0"},
		{"w n; print (print 1; 5 / 0); 6", 4096, "long 4098 [] 4096 0"},
		{"w n; (print 1; 5) / 0", 4096, "long 4098 [] 4096 0"},
		{"w n; (let rec f x = f x in f 1)", 4096, "fuel 65536 [] 4096 0"},
		{"w n; (let rec f x = print 1; f x in f 1)", 4096, "long 4099 [] 4096 0"},
		{"(let rec f x = print 1; f x in f 1)", 0, "long 4098 [] 4096 0"},
		{"(let rec f x = f (print 1) in f Unit)", 0, "long 4098 [] 4096 0"},
	} {
		got, r := ask(t, counted(w, x.main), x.n, api.MaxEval)
		if got != x.want {
			t.Errorf("%s of %d: %s, not %s", x.main, x.n, got, x.want)
		}
		for i, n := range r.Writes {
			if n != x.n-i && n != 1 {
				t.Fatalf("%s of %d: %d at %d", x.main, x.n, n, i)
			}
		}
	}
	// Ahead of the input.
	s := w + " in w %d; fun l -> 3"
	for n, want := range map[int]string{4095: "done 4097 [] 4095 1", 4096: "done 4098 [] 4096 1", 4097: "long 4097 [] 4096 0"} {
		if got, _ := ask(t, fmt.Sprintf(s, n), 0, api.MaxEval); got != want {
			t.Errorf("%d ahead: %s, not %s", n, got, want)
		}
	}
}

// TestLongOrFuel: what ends such a program hangs on what comes first.
func TestLongOrFuel(t *testing.T) {
	t.Parallel()
	const s = "let rec f x = print x; f (x + 1) in fun l -> f 1"
	for fuel, want := range map[int]string{
		0: "fuel 0 [] 0 0", 1: "fuel 1 [] 0 0", 2: "fuel 2 [] 1 0", 100: "fuel 100 [] 99 0",
		4096: "fuel 4096 [] 4095 0", 4097: "fuel 4097 [] 4096 0", 4098: "long 4098 [] 4096 0",
		4099: "long 4098 [] 4096 0", api.MaxEval: "long 4098 [] 4096 0",
	} {
		got, r := ask(t, s, 0, fuel)
		if got != want || !slices.Equal(r.Writes, upTo(len(r.Writes))) {
			t.Errorf("%d: %s, not %s", fuel, got, want)
		}
	}
}

// TestShows: values that show as much as may be, one fewer, one more.
func TestShows(t *testing.T) {
	t.Parallel()
	const list = "let rec list n = if n == 0 then Nil else Cons n (list (n - 1)) in "
	const chain = "let rec chain n = if n == 0 then Z else S (chain (n - 1)) in "
	const tree = "let rec tree n = if n == 0 then L else let x = tree (n - 1) in N x x in "
	const wide = "let rec wide n = if n == 0 then L else let x = wide (n - 1) in W x x x x x x x x in "
	const decls = "type s = Z | S s; type n = L | N n n | U n; "
	const wides = "type n = L | W n n n n n n n n | U n; "
	for _, x := range []struct{ s, want string }{
		{list + "fun l -> list 2047", "done 2049 [] 0 4095"},
		{list + "fun l -> list 2048", "long 2050 [] 0 0"},
		{list + "fun l -> list 2049", "long 2051 [] 0 0"},
		{list + "fun l -> list 60000", "long 60002 [] 0 0"},
		{list + "fun l -> print 7; list 2048", "long 2050 [] 1 0"},
		{"type p 'a = P 'a; " + list + "fun l -> P (list 2046)", "done 2048 [] 0 4094"},
		{"type p 'a = P 'a; " + list + "fun l -> P (list 2047)", "done 2049 [] 0 4096"},
		{"type p 'a = P 'a; " + list + "fun l -> print 3; print 4; P (list 2047)", "done 2049 [] 2 4096"},
		{"type p 'a = P 'a; " + list + "fun l -> P (P (list 2047))", "long 2049 [] 0 0"},
		{"type p 'a = P 'a; " + list + "fun l -> print 3; print 4; P (P (list 2047))", "long 2049 [] 2 0"},
		{decls + chain + "fun l -> chain 4094", "done 4096 [] 0 4095"},
		{decls + chain + "fun l -> chain 4095", "done 4097 [] 0 4096"},
		{decls + chain + "fun l -> chain 4096", "long 4098 [] 0 0"},
		{decls + chain + "fun l -> chain 65534", "long 65536 [] 0 0"},
		{decls + chain + "fun l -> chain 65535", "fuel 65536 [] 0 0"},
		{decls + tree + "fun l -> tree 11", "done 13 [] 0 4095"},
		{decls + tree + "fun l -> U (tree 11)", "done 13 [] 0 4096"},
		{decls + tree + "fun l -> U (U (tree 11))", "long 13 [] 0 0"},
		{decls + tree + "fun l -> N (tree 11) L", "long 13 [] 0 0"},
		{decls + tree + "fun l -> N L (tree 11)", "long 13 [] 0 0"},
		{decls + tree + "fun l -> tree 12", "long 14 [] 0 0"},
		{decls + tree + "fun l -> tree 300", "long 302 [] 0 0"},
		{decls + tree + "fun l -> tree 20000", "long 20002 [] 0 0"},
		{wides + wide + "fun l -> wide 3", "done 5 [] 0 585"},
		{wides + wide + "fun l -> wide 4", "long 6 [] 0 0"},
		{wides + wide + "fun l -> let a = wide 3 in W a a a a a a a L", "long 5 [] 0 0"},
		{wides + wide + "fun l -> let a = wide 3 in W a a a a a a (wide 2) (wide 2)", "done 11 [] 0 3657"},
		{wides + wide + "fun l -> wide 50", "long 52 [] 0 0"},
	} {
		if got, _ := ask(t, x.s, 0, api.MaxEval); got != x.want {
			t.Errorf("%s: %s, not %s", x.s, got, x.want)
		}
	}
}

// TestShown: in which order a value's numbers stand.
func TestShown(t *testing.T) {
	const decls = "type t = L int | N t int t | M t t t; type p 'a 'b = P 'a 'b | Q; "
	checkAsked(t, []asked{
		{decls + "fun l -> N (N (L 1) 2 (L 3)) 4 (N (L 5) 6 (L 7))", nil, "done 1 [] [1 1 0 1 2 0 3 4 1 0 5 6 0 7]"},
		{decls + "fun l -> M (L 9) (M (L 8) (L 7) (L 6)) (N (L 5) 4 (L 3))", nil, "done 1 [] [2 0 9 2 0 8 0 7 0 6 1 0 5 4 0 3]"},
		{decls + "fun l -> P (P l True) (P False (P Unit Q))", []int{2, 3}, "done 1 [] [0 0 1 2 1 3 0 1 0 0 0 0 1]"},
		{decls + "fun l -> Cons l (Cons Nil (Cons l Nil))", []int{5}, "done 1 [] [1 1 5 0 1 0 1 1 5 0 0]"},
		{decls + "fun l -> P ~1 (P (5 - 9) ~1073741824)", nil, "done 1 [] [0 -1 0 -4 -1073741824]"},
	})
}

// TestFunctionsWithin: values that hold functions are kept and taken apart as others are.
func TestFunctionsWithin(t *testing.T) {
	const decls = "type o 'a = O 'a | Z; type s = S (s -> int); type r 'a = R (r 'a -> 'a); "
	checkAsked(t, []asked{
		{decls + "fun l -> case O (fun x -> x + 1) of O f -> f 2 | Z -> 0 end", nil, "done 2 [] [3]"},
		{decls + "fun l -> let fs = Cons (fun x -> x + 1) (Cons (fun x -> x * 10) Nil) in let rec all fs = fun x -> case fs of Nil -> Nil | Cons f r -> Cons (f x) (all r x) end in all fs 5", nil, "done 9 [] [1 6 1 50 0]"},
		{decls + "let o = O (O (fun l -> l)) in fun l -> case o of O (O f) -> f l | _ -> Nil end", []int{4}, "done 2 [] [1 4 0]"},
		{decls + "fun l -> case O (let rec f x = if x == 0 then 0 else 2 + f (x - 1) in f) of O f -> f 4 | _ -> 9 end", nil, "done 6 [] [8]"},
		{decls + "let d = fun x -> case x of S f -> f x end in fun l -> d (S (fun s -> 5))", nil, "done 3 [] [5]"},
		{decls + "let d = fun x -> case x of S f -> f x end in fun l -> d (S d)", nil, "fuel 1000 []"},
		{decls + "let fix = fun g -> let d = fun x -> case x of R h -> g (fun v -> h x v) end in d (R d) in let fact = fix (fun self -> fun n -> if n == 0 then 1 else n * self (n - 1)) in fun l -> fact 6", nil, "done 29 [] [720]"},
	})
}
