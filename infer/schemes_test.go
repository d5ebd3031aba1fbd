package infer

import (
	"fmt"
	"strings"
	"testing"
)

// pairsOf puts the type of pairs ahead of each line; the place of Main, where a line is marked with !main, is behind it.
func pairsOf(lines ...string) []string {
	const ahead = "type p 'a 'b = P 'a 'b; "
	var out []string
	for _, s := range lines {
		if strings.HasSuffix(s, "!main") && !strings.Contains(s, "@") {
			s = "@" + s
		}
		out = append(out, ahead+s)
	}
	return out
}

// TestTakenTwice: the Name of a let, and of a rec behind, is taken with types that differ; what else binds a name, and a rec's Name in its first, is of one type.
func TestTakenTwice(t *testing.T) {
	table(t, pairsOf(
		"let id = fun x -> x in fun l -> P (id 1) (id l) :: list int -> p int (list int)",
		"let id = fun x -> x in fun l -> P (id l) (P (id True) (id 1)) :: list int -> p (list int) (p bool int)",
		"let nil = Nil in fun l -> P (Cons 1 nil) (Cons l (Cons nil nil)) :: list int -> p (list int) (list (list int))",
		"let k = fun x -> fun y -> x in fun l -> P (k 1 l) (k l 1) :: list int -> p int (list int)",
		"let pair = fun x -> fun y -> P y x in fun l -> pair (pair 1 l) (pair l True) :: list int -> p (p bool (list int)) (p (list int) int)",
		"let f = fun x -> x in let g = f in let h = g in fun l -> P (h 1) (P (g l) (f (h l))) :: list int -> p int (p (list int) (list int))",
		"let id = fun x -> x in fun l -> id id (id (id id) l) :: list int -> list int",
		"fun l -> let id = fun x -> x in P (id 1) (id l) :: list int -> p int (list int)",
		"fun l -> P (let id = fun x -> x in id (id 1)) (let id = fun x -> l in P (id 1) (id True)) :: list int -> p int (p (list int) (list int))",
		"let ap = fun f -> fun x -> f x in fun l -> P (ap (fun x -> x + 1) 1) (ap (fun x -> Nil) l) :: list int -> p int (list 'a)",
		"let s = fun x -> fun y -> fun z -> x z (y z) in let k = fun x -> fun y -> x in fun l -> s k k l :: list int -> list int",

		"let rec id x = x in fun l -> P (id 1) (id l) :: list int -> p int (list int)",
		"let rec len l = case l of Nil -> 0 | Cons _ r -> 1 + len r end in fun l -> len l + len (Cons True Nil) + len (Cons l Nil) :: list int -> int",
		"let rec f x = f x in fun l -> P (f 1 + 1) (P (f l) (f True; l)) :: list int -> p int (p 'a (list int))",
		"let rec f x = fun y -> case x of Nil -> y | Cons _ r -> f r y end in fun l -> P (f l 1) (f (Cons l Nil) Nil) :: list int -> p int (list 'a)",
		"let rec f x = x in let g = f in fun l -> P (g 1) (g l) :: list int -> p int (list int)",

		"let rec f x = P (f 1) (@f True) in f :: !unify",
		"let rec f x = case f 1 of _ -> case x of 1 -> 2 | _ -> @f Nil end end in f :: !unify",
		"let rec f x = if f 1 then 1 < 2 else @f Unit in f :: !unify",
		"let rec f x = @P (f x) 2 in f :: !occurs",
		"let rec f x = @Cons (f x) Nil in f :: !occurs",
		"let rec f x = @f in f :: !occurs",
		"let rec f x = @f f in f :: !occurs",
		"let rec f x = 1 in P (f Nil) (f 1) :: !main",
		"fun l -> (fun f -> P (f 1) (f 2)) (fun x -> Cons x l) :: list int -> p (list int) (list int)",
		"fun l -> (fun f -> P (f 1) (@f True)) (fun x -> x) :: !unify",
		"fun l -> (fun f -> P (f Nil) (@f 1)) (fun x -> x) :: !unify",
		"@fun l -> (fun f -> P (f l) (f 1)) (fun x -> x) :: !main",
		"fun l -> (fun x -> P x x) Nil :: list int -> p (list 'a) (list 'a)",
		"fun l -> let x = Nil in P x x :: list int -> p (list 'a) (list 'b)",
		"fun l -> case Nil of x -> P x x end :: list int -> p (list 'a) (list 'a)",
		"fun l -> case fun x -> x of f -> P (f 1) (@f True) end :: !unify",
		"fun l -> case P (fun x -> x) 1 of P f _ -> P (f 1) (@f True) end :: !unify",
		"fun l -> case fun x -> x of f -> let g = f in P (g 1) (@g True) end :: !unify",
		"let rec f x = P (x 1) (@x True) in f :: !unify",
		"let rec f x = let g = x in P (g 1) (@g True) in f :: !unify",
		"let rec f x = let g = f in P (g 1) (@g True) in f :: !unify",
	)...)
}

// TestNotOpen: a variable that stands in a scheme around is not open, however it came to stand there.
func TestNotOpen(t *testing.T) {
	table(t, pairsOf(
		"fun l -> let m = l in P (case m of Nil -> 1 | _ -> 2 end) (@m + 1) :: !unify",
		"fun l -> (fun x -> let y = x in P (y + 1) (@y; 2)) 1 :: !unify",
		"fun l -> (fun x -> let y = fun z -> x in P (y 1 + 1) (@y True; 2)) 1 :: !unify",
		"fun l -> (fun x -> let f = fun z -> P x z in P (f 1) (f True)) l :: list int -> p (p (list int) int) (p (list int) bool)",
		"fun l -> let f = fun z -> P z l in P (f 1) (f True) :: list int -> p (p int (list int)) (p bool (list int))",
		"fun l -> (fun x -> let f = fun z -> P x z in P (f 1) (P (f True) (x + 1))) 3 :: list int -> p (p int int) (p (p int bool) int)",
		"fun l -> (fun x -> let f = fun z -> P x z in P (f 1) (P (f True) x)) Nil :: list int -> p (p (list 'a) int) (p (p (list 'a) bool) (list 'a))",
		// A rec, likewise.
		"fun l -> (fun x -> let rec f y = P x y in P (f 1) (f True)) l :: list int -> p (p (list int) int) (p (list int) bool)",
		"fun l -> (fun x -> let rec f y = x in P (f 1 + 1) (@f True; 2)) 1 :: !unify",
		"fun l -> (fun x -> let rec f y = case Cons x (Cons y Nil) of _ -> 1 end in P (f 1) (@f True)) 2 :: !unify",
		"fun l -> (fun x -> let rec f y = f x in P (f 1) (@f True)) 2 :: !unify",
		// Of two names around that are of one type, of a part of one, of one behind the arrow.
		"fun l -> (fun x -> fun y -> case Cons x (Cons y Nil) of _ -> let z = y in P (x + 1) (@z; 1) end) 1 2 :: !unify",
		"fun l -> (fun x -> case x of P a b -> let z = a in P (z + 1) (@z; 1) end) (P 1 2) :: !unify",
		"fun l -> (fun x -> let z = case x of P a b -> a end in P (z + 1) (@z; 1)) (P 1 2) :: !unify",
		"fun l -> (fun f -> let z = f 1 in P (z + 1) (@z; 1)) (fun x -> x) :: !unify",
		"fun l -> (fun f -> let g = fun x -> f x in P (g 1) (@g True)) (fun x -> x) :: !unify",
		"fun l -> (fun f -> fun x -> case f x of y -> let z = Cons y Nil in P (Cons 1 z) (Cons True @z) end) (fun x -> x) 1 :: !unify",
		// The patterns' names around.
		"fun l -> case Nil of x -> let y = x in P (Cons 1 y) (Cons True @y) end :: !unify",
		"fun l -> case P Nil 1 of P x _ -> let y = Cons x Nil in P (Cons (Cons 1 Nil) y) (Cons (Cons True Nil) @y) end :: !unify",
		"fun l -> case P Nil 1 of P x _ -> let y = Nil in P (Cons 1 y) (P (Cons True y) x) end :: list int -> p (list int) (p (list bool) (list 'a))",
		// Not those of another branch, nor of what is no longer around.
		"fun l -> case P Nil 1 of P x 1 -> P Nil Nil | P _ _ -> let y = Nil in P (Cons 1 y) (Cons True y) end :: list int -> p (list int) (list bool)",
		"fun l -> (case fun x -> x of f -> 1 end) + (let g = fun x -> x in case g 1 of 1 -> g 2 | _ -> g (fun x -> x) 3 end) :: list int -> int",
		// What is bound around is of a scheme with some variables open, and some not.
		"fun l -> (fun x -> let f = fun z -> P x z in let g = fun w -> f w in P (g 1) (P (g True) (x; 1))) Unit :: list int -> p (p unit int) (p (p unit bool) int)",
		"fun l -> (fun x -> let f = fun z -> P x z in let g = f in case g 1 of P a b -> P (a + b) (case g True of P a b -> @a; 1 end) end) 1 :: !unify",
		// A let within a function, whose type hangs on the Param; around that another let.
		"let f = fun x -> let g = fun y -> P x y in P (g 1) (g True) in fun l -> P (f 1) (f l) :: list int -> p (p (p int int) (p int bool)) (p (p (list int) int) (p (list int) bool))",
		"let f = fun x -> let y = x in fun z -> P y z in fun l -> P (f 1 l) (f l 1) :: list int -> p (p int (list int)) (p (list int) int)",
		"let f = fun x -> let y = x in P (y + 1) (@y; 2) in f :: !unify",
		"let f = fun x -> let rec g y = @P x (g y) in 1 in f :: !occurs",
	)...)
}

// TestNames: a name that is bound twice is the inner one; a let's Name does not stand in its first.
func TestNames(t *testing.T) {
	table(t, pairsOf(
		"let x = 1 in let x = fun y -> x + y in fun l -> x 2 :: list int -> int",
		"let f = 1 in let f = fun x -> f in fun l -> P (f 1) (f l) :: list int -> p int int",
		"let f = fun x -> 1 in let rec f x = case x of Nil -> Nil | Cons y r -> f r end in f :: list int -> list 'a",
		"fun l -> let l = Cons l Nil in let l = Cons l Nil in l :: list int -> list (list (list int))",
		"fun x -> fun x -> x :: !main",
		"fun l -> (fun x -> (fun x -> fun y -> P x y) True x) 1 :: list int -> p bool int",
		"fun l -> (fun x -> P ((fun x -> x; 2) Unit) (x + 1)) 1 :: list int -> p int int",
		"fun l -> case l of l -> case P 1 l of P l _ -> l + 1 end end :: list int -> int",
		"fun l -> P (case P 1 True of P l m -> l end) l :: list int -> p int (list int)",
		"fun l -> P (let l = 1 in l + 1) (case l of Nil -> 1 | Cons l _ -> l end) :: list int -> p int int",
		"fun l -> let rec f l = l + 1 in P (f 1) l :: list int -> p int (list int)",

		"let rec x x = x in fun l -> P (x 1) (x l) :: list int -> p int (list int)",
		"let rec x x = Cons 1 x in x :: list int -> list int",
		"let rec x x = @x x in x :: !occurs",
		"let rec x x = x + 1 in x :: !main",
		"fun l -> let rec l l = l + 1 in l 2 :: list int -> int",
		"fun l -> let rec l l = l + 1 in @l Nil :: !unify",
		"let rec f f = case f of Nil -> 1 | Cons _ r -> 2 end in fun l -> P (f l) (f (Cons f Nil)) :: list int -> p int int",
		"let rec f x = let rec f x = x in P (f 1) (f True) in f :: list int -> p int bool",
		"let rec f x = case x of Cons f _ -> f | _ -> 1 end in f :: list int -> int",
		"let rec f x = case x of x -> f x end in f :: list int -> 'a",
		"let rec f x = 1 in let rec g x = f x in let rec f x = g (g x) in f :: list int -> int",
		"let rec f x = 1 in let rec g x = f x in let rec f x = P (g 1) (g (g x)) in f :: list int -> p int int",
	)...)
}

// TestLetters: the variables of what is told are a, b .. in the order in which they stand there.
func TestLetters(t *testing.T) {
	table(t, pairsOf(
		"fun l -> Nil :: list int -> list 'a",
		"fun l -> P Nil Nil :: list int -> p (list 'a) (list 'b)",
		"fun l -> (fun x -> fun y -> P (P y x) y) Nil (P Nil Nil) :: list int -> p (p (p (list 'a) (list 'b)) (list 'c)) (p (list 'a) (list 'b))",
		"let rec f x = f x in fun l -> P (f 1) (P (f 1) Nil) :: list int -> p 'a (p 'b (list 'c))",
		"let rec f x = f x in f :: list int -> 'a",
		"let rec f x = fun y -> f y x in fun l -> (fun a -> fun b -> fun c -> P c (P a (P b a))) (f 1 1) (f 1 1) (f l l) :: list int -> p 'a (p 'b (p 'c 'b))",
	)...)
	for _, n := range []int{25, 26, 27, 28, 52, 53, 54, 80} {
		s, want := "Nil", "list '"+letter(n-1)
		for i := n - 2; i >= 0; i-- {
			s, want = fmt.Sprintf("P Nil (%s)", s), fmt.Sprintf("p (list '%s) (%s)", letter(i), want)
		}
		wantType(t, "type p 'a 'b = P 'a 'b; fun l -> "+s, "list int -> "+want)
	}
	wantType(t, "type p 'a 'b = P 'a 'b; fun l -> "+strings.Repeat("P Nil (", 28)+"1"+strings.Repeat(")", 28),
		"list int -> p (list 'a) (p (list 'b) (p (list 'c) (p (list 'd) (p (list 'e) (p (list 'f) (p (list 'g) (p (list 'h) (p (list 'i) (p (list 'j) (p (list 'k) (p (list 'l) (p (list 'm) (p (list 'n) (p (list 'o) (p (list 'p) (p (list 'q) (p (list 'r) (p (list 's) (p (list 't) (p (list 'u) (p (list 'v) (p (list 'w) (p (list 'x) (p (list 'y) (p (list 'z) (p (list 'a1) (p (list 'b1) int)))))))))))))))))))))))))))")
}
