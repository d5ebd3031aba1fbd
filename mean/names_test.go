package mean

import (
	"fmt"
	"strings"
	"testing"

	"athanor/api"
)

// TestAround: a function keeps what was bound around it where it was made.
func TestAround(t *testing.T) {
	bodies(t,
		"let x = 1 in let f = fun y -> x in let x = 2 in f 0", "done 2 [] [1]",
		"let x = 1 in let f = fun y -> x + y in let x = 20 in let y = 300 in f x", "done 2 [] [21]",
		"let add = fun x -> fun y -> x - y in let a = add 10 in let b = add 20 in Cons (a 1) (Cons (b 2) (Cons (a 3) Nil))", "done 6 [] [1 9 1 18 1 7 0]",
		"(fun x -> (fun f -> (fun x -> f 0) 2) (fun y -> x)) 1", "done 5 [] [1]",
		"let f = (let x = 5 in fun y -> x + y) in let x = 100 in f 1", "done 2 [] [6]",
		"let f = case Cons 5 Nil of Cons x _ -> fun y -> x + y | Nil -> fun y -> y end in let x = 100 in f 1", "done 2 [] [6]",
		"let x = 1 in let rec f y = if y == 0 then x else f (y - 1) in let x = 2 in f 3", "done 5 [] [1]",
		"let rec f x = fun y -> if x == 0 then y else f (x - 1) (y + x) in f 3 0", "done 9 [] [6]",
		"let compose = fun f -> fun g -> fun x -> f (g x) in compose (fun x -> x * 2) (fun x -> x + 1) 5", "done 6 [] [12]",
		"let twice = fun f -> fun x -> f (f x) in twice twice (fun x -> x * 3) 1", "done 12 [] [81]",
		"let rec f g = fun x -> g x in f (f (fun x -> x + 1)) 5", "done 6 [] [6]",
	)
	checkAsked(t, []asked{
		{"let l = 5 in fun x -> l", []int{1}, "done 1 [] [5]"},
		{"fun l -> (fun f -> fun l -> f 0) (fun x -> l) 7", []int{4}, "done 4 [] [1 4 0]"},
	})
}

// TestAnew: of names alike the inner one is meant, within alone.
func TestAnew(t *testing.T) {
	bodies(t,
		"let x = 1 in let x = x + 1 in x", "done 1 [] [2]",
		"let x = 1 in let y = (let x = 5 in x) in x + y * 10", "done 1 [] [51]",
		"let x = 1 in let y = (fun x -> x) 5 in x + y * 10", "done 2 [] [51]",
		"let x = 1 in let y = case 5 of x -> x end in x + y * 10", "done 1 [] [51]",
		"let x = 1 in let y = (let rec x z = 5 in x 0) in x + y * 10", "done 2 [] [51]",
		"let x = 1 in (let x = 2 in x) + x", "done 1 [] [3]",
		"(fun x -> (fun x -> x + 1) (x * 10) + x) 3", "done 3 [] [34]",
		"let l = 4 in l", "done 1 [] [4]",
		"case Cons 7 Nil of Cons l _ -> l | l -> 0 end", "done 1 [] [7]",
		"let f = fun x -> 1 in let f = fun x -> f x + 10 in f 0", "done 3 [] [11]",
		"let rec f x = 1 in let rec f x = if x == 0 then 20 else f (x - 1) in f 2", "done 4 [] [20]",
		"case 1 of x -> case 2 of x -> x end end", "done 1 [] [2]",
		"case 1 of x -> (case 2 of x -> x end) * 10 + x end", "done 1 [] [21]",
	)
	// A branch's names are not bound in the next ones, nor is what a part of a pattern has met ahead of one that met nothing.
	checkAsked(t, []asked{
		{"fun l -> let x = 9 in case l of Cons x (Cons 1 _) -> x | Cons _ _ -> x | Nil -> x end", []int{5, 1}, "done 1 [] [5]"},
		{"fun l -> let x = 9 in case l of Cons x (Cons 1 _) -> x | Cons _ _ -> x | Nil -> x end", []int{5, 2}, "done 1 [] [9]"},
		{"fun l -> let x = 9 in case l of Cons x (Cons 1 _) -> x | Cons _ _ -> x | Nil -> x end", []int{5}, "done 1 [] [9]"},
		{"fun l -> let x = 9 in case l of Cons x (Cons 1 _) -> x | Cons _ _ -> x | Nil -> x end", nil, "done 1 [] [9]"},
	})
}

// TestRecursive: an ExRec's function knows itself; its parameter is meant, where it has the function's name.
func TestRecursive(t *testing.T) {
	bodies(t,
		"let rec f x = if x == 0 then 0 else x + f (x - 1) in f 10", "done 12 [] [55]",
		"let rec f x = if x < 2 then x else f (x - 1) + f (x - 2) in f 10", "done 178 [] [55]",
		"let rec f f = f in f 3", "done 2 [] [3]",
		"let rec f f = f + 1 in f (f 3)", "done 3 [] [5]",
		"let rec f f = fun x -> f x in f (fun y -> y * 2) 4", "done 4 [] [8]",
		"let rec f x = x in let g = f in let rec f x = x + 1 in g (f 1)", "done 3 [] [2]",
		"let rec f x = let f = fun y -> y * 100 in f x in f 3", "done 3 [] [300]",
		"let rec f x = fun f -> f + x in f 3 4", "done 3 [] [7]",
		"let rec f x = let rec g y = if y == 0 then f (x - 1) else 1 + g (y - 1) in if x == 0 then 0 else g x in f 4", "done 20 [] [10]",
		"let rec even n = if n == 0 then True else (fun odd -> odd (n - 1)) (fun n -> if n == 0 then False else even (n - 1)) in even 10", "done 17 [] [1]",
		"let rec map f = fun l -> case l of Nil -> Nil | Cons x r -> Cons (f x) (map f r) end in map (fun x -> x * x) (Cons 2 (Cons 3 Nil))", "done 9 [] [1 4 1 9 0]",
		"let rec f x = print x; if x == 0 then Unit else (f (x - 1); print x) in f 3", "done 5 [3 2 1 0 1 2 3] [0]",
	)
}

// TestCases: the first branch that meets, and what its names are bound to.
func TestCases(t *testing.T) {
	const pair = "type p 'a 'b = P 'a 'b; type c = R | G | B int; fun l -> "
	checkAsked(t, []asked{
		{"fun l -> case l of Cons x Nil -> 1 | Cons x _ -> 2 | _ -> 3 end", []int{5}, "done 1 [] [1]"},
		{"fun l -> case l of Cons x Nil -> 1 | Cons x _ -> 2 | _ -> 3 end", []int{5, 6}, "done 1 [] [2]"},
		{"fun l -> case l of Cons x Nil -> 1 | Cons x _ -> 2 | _ -> 3 end", nil, "done 1 [] [3]"},
		{"fun l -> case l of _ -> 1 | Nil -> 2 | x -> 3 end", nil, "done 1 [] [1]"},
		{"fun l -> case l of x -> x | Nil -> Cons 1 Nil end", nil, "done 1 [] [0]"},
		{"fun l -> case l of Cons 1 _ -> 1 | Cons _ (Cons 1 _) -> 2 | Cons 2 _ -> 3 | Nil -> 4 | Cons 3 Nil -> 5 | _ -> 6 end", []int{2, 1}, "done 1 [] [2]"},
		{"fun l -> case l of Cons 1 _ -> 1 | Cons _ (Cons 1 _) -> 2 | Cons 2 _ -> 3 | Nil -> 4 | Cons 3 Nil -> 5 | _ -> 6 end", []int{2, 3}, "done 1 [] [3]"},
		{"fun l -> case l of Cons 1 _ -> 1 | Cons _ (Cons 1 _) -> 2 | Cons 2 _ -> 3 | Nil -> 4 | Cons 3 Nil -> 5 | _ -> 6 end", []int{1, 1}, "done 1 [] [1]"},
		{"fun l -> case l of Cons 1 _ -> 1 | Cons _ (Cons 1 _) -> 2 | Cons 2 _ -> 3 | Nil -> 4 | Cons 3 Nil -> 5 | _ -> 6 end", []int{3}, "done 1 [] [5]"},
		{"fun l -> case l of Cons 1 _ -> 1 | Cons _ (Cons 1 _) -> 2 | Cons 2 _ -> 3 | Nil -> 4 | Cons 3 Nil -> 5 | _ -> 6 end", []int{3, 3}, "done 1 [] [6]"},
		{"fun l -> case l of Cons a (Cons b (Cons c d)) -> Cons c (Cons b (Cons a d)) | r -> r end", []int{1, 2, 3, 4}, "done 1 [] [1 3 1 2 1 1 1 4 0]"},
		{"fun l -> case l of Cons a (Cons b (Cons c d)) -> Cons c (Cons b (Cons a d)) | r -> r end", []int{1, 2}, "done 1 [] [1 1 1 2 0]"},
		{pair + "case P (P 1 (B 2)) (P G l) of P (P a (B b)) (P c d) -> P (P b (B a)) (P d c) | x -> P (P 0 R) (P Nil G) end", []int{3}, "done 1 [] [0 0 2 2 1 0 1 3 0 1]"},
		{pair + "case P 1 2 of P 2 x -> x | P x 3 -> x | P x y -> x * 10 + y end", nil, "done 1 [] [12]"},
		{pair + "case P R (B 7) of P G _ -> 1 | P _ (B 6) -> 2 | P R (B x) -> x | _ -> 3 end", nil, "done 1 [] [7]"},
		{pair + "case B 5 of R -> 1 | G -> 2 | B x -> x end", nil, "done 1 [] [5]"},
		{pair + "case G of R -> 1 | G -> 2 | B x -> x end", nil, "done 1 [] [2]"},
		{pair + "case ~1073741824 of 1073741823 -> 1 | ~1073741824 -> 2 | _ -> 3 end", nil, "done 1 [] [2]"},
		{pair + "case 1073741823 + 1 of 1073741823 -> 1 | ~1073741824 -> 2 | _ -> 3 end", nil, "done 1 [] [2]"},
		{pair + "case P (fun x -> x + 1) (fun y -> y * 5) of P f g -> g (f 1) end", nil, "done 3 [] [10]"},
		{pair + "case Unit of Unit -> 3 end", nil, "done 1 [] [3]"},
		{pair + "case print 4 of Unit -> 3 end", nil, "done 1 [4] [3]"},
		{pair + "case 1 < 2 of True -> 3 | False -> 4 end", nil, "done 1 [] [3]"},
	})
}

// TestTags: a constructor is its place in its own type, of a declared one and of those that there are ahead.
func TestTags(t *testing.T) {
	const decls = "type a = Q | W int | E; type b 'x = R | T 'x | Y (b 'x) | U; type one = One; fun l -> "
	checkAsked(t, []asked{
		{decls + "Cons Q (Cons (W 9) (Cons E Nil))", nil, "done 1 [] [1 0 1 1 9 1 2 0]"},
		{decls + "Cons R (Cons (T 8) (Cons (Y (T 7)) (Cons U Nil)))", nil, "done 1 [] [1 0 1 1 8 1 2 1 7 1 3 0]"},
		{decls + "Y (Y (Y R))", nil, "done 1 [] [2 2 2 0]"},
		{decls + "T One", nil, "done 1 [] [1 0]"},
		{decls + "T True", nil, "done 1 [] [1 1]"},
		{decls + "case T 5 of U -> 0 | Y _ -> 1 | R -> 2 | T x -> x end", nil, "done 1 [] [5]"},
	})
	for _, n := range []int{1, 2, 32} {
		var cons, branches []string
		for i := range n {
			cons = append(cons, fmt.Sprint("C", i, " int"))
			branches = append(branches, fmt.Sprintf("C%d x -> x * 100 + %d", i, i))
		}
		for i := range n {
			s := fmt.Sprintf("type t = %s; fun l -> let v = C%d 5 in let n = case v of %s end in print n; v", strings.Join(cons, " | "), i, strings.Join(branches, " | "))
			checkAsked(t, []asked{{s, nil, fmt.Sprintf("done 1 [%d] [%d 5]", 500+i, i)}})
		}
	}
}

// TestManyFields: constructors of no field to the most that there may be.
func TestManyFields(t *testing.T) {
	for n := range api.MaxFields + 1 {
		names, want := make([]string, n), ""
		for i := range n {
			names[i] = fmt.Sprint("x", i)
			want = " " + fmt.Sprint(i) + want
		}
		turned := strings.Join(names, " ")
		args, backward := "", ""
		for i := range n {
			args += fmt.Sprint(" ", i)
			backward = " " + names[i] + backward
		}
		s := "type t = A | F" + strings.Repeat(" int", n) + "; fun l -> case F" + args + " of A -> A | F " + turned + " -> F" + backward + " end"
		checkAsked(t, []asked{{s, nil, "done 1 [] [1" + want + "]"}})
	}
}
