package infer

import (
	"fmt"
	"strings"
	"testing"
)

// TestParams: types with no Params, with one and with several, each of them used once, twice and never.
func TestParams(t *testing.T) {
	table(t,
		"type t = A | B int bool; fun l -> A :: list int -> t",
		"type t = A | B int bool; fun l -> B 1 True :: list int -> t",
		"type t = A | B int bool; fun l -> B 1 @2 :: !unify",
		"type t = A | B int bool; fun l -> B @True True :: !unify",
		"type t = A | B int bool; fun l -> case A of B x y -> if y then x else 1 | A -> 2 end :: list int -> int",
		"type t = A | B int bool; fun l -> case A of B x y -> if y then x else 1 | @Nil -> 2 end :: !unify",
		"type ph 'a = Ph; fun l -> Ph :: list int -> ph 'a",
		"type ph 'a = Ph; fun l -> Cons Ph (Cons Ph Nil) :: list int -> list (ph 'a)",
		"type ph 'a = Ph; type p 'a 'b = P 'a 'b; let x = Ph in fun l -> P x x :: list int -> p (ph 'a) (ph 'b)",
		"type ph 'a 'b = Ph 'b; fun l -> Ph l :: list int -> ph 'a (list int)",
		"type ph 'a 'b = Ph 'b; fun l -> case Ph l of Ph x -> x end :: list int -> list int",
		"type ph 'a 'b = Ph 'b | Qh (ph 'b 'a); fun l -> Qh (Ph l) :: list int -> ph (list int) 'a",
		"type tw 'a = Tw 'a 'a; fun l -> Tw 1 2 :: list int -> tw int",
		"type tw 'a = Tw 'a 'a; fun l -> Tw Nil Nil :: list int -> tw (list 'a)",
		"type tw 'a = Tw 'a 'a; fun l -> Tw 1 @True :: !unify",
		"type tw 'a = Tw 'a 'a; @fun l -> Tw True l :: !main",
	)
	table(t,
		"type tw 'a = Tw 'a 'a; fun l -> (fun x -> Tw x (@Cons x Nil)) l :: !occurs",
		"type tw 'a = Tw 'a 'a; fun l -> (fun x -> Tw (Cons x Nil) @x) l :: !occurs",
		"type tw 'a = Tw 'a 'a; fun l -> case Tw 1 2 of Tw x y -> Tw (x < y) True end :: list int -> tw bool",
		"type tw 'a = Tw 'a 'a; fun l -> case Tw 1 2 of Tw 1 @True -> 1 end :: !unify",
		"type four 'a 'b 'c 'd = Four 'd 'b 'c 'a; fun l -> Four 1 True Unit l :: list int -> four (list int) bool unit int",
		"type four 'a 'b 'c 'd = Four 'd 'b 'c 'a; fun l -> case Four 1 True Unit l of Four x y z w -> Four w z y x end :: list int -> four int unit bool (list int)",
		"type four 'a 'b 'c 'd = Four 'd 'b 'c 'a; fun l -> case Four 1 True Unit l of @Four x y True w -> 1 end :: !unify",
		"type mix 'a 'b 'c = M 'b (list 'b) 'a | N 'c (mix 'c 'a 'b); fun l -> M 1 Nil True :: list int -> mix bool int 'a",
		"type mix 'a 'b 'c = M 'b (list 'b) 'a | N 'c (mix 'c 'a 'b); fun l -> M 1 l Nil :: list int -> mix (list 'a) int 'b",
		"type mix 'a 'b 'c = M 'b (list 'b) 'a | N 'c (mix 'c 'a 'b); fun l -> N True (M l Nil True) :: list int -> mix (list int) 'a bool",
		"type mix 'a 'b 'c = M 'b (list 'b) 'a | N 'c (mix 'c 'a 'b); fun l -> N True (@M l Nil 1) :: !unify",
		"type mix 'a 'b 'c = M 'b (list 'b) 'a | N 'c (mix 'c 'a 'b); fun l -> N True (M l @True True) :: !unify",
		"type box 'a = Box ('a -> 'a) 'a; fun l -> case Box (fun x -> x + 1) 2 of Box f x -> f x end :: list int -> int",
		"type box 'a = Box ('a -> 'a) 'a; fun l -> case Box (fun x -> x) l of Box f x -> f (f x) end :: list int -> list int",
		"type box 'a = Box ('a -> 'a) 'a; fun l -> Box (fun x -> x + 1) @Nil :: !unify",
		"type box 'a = Box ('a -> 'a) 'a; fun l -> case Box (@fun x -> x < 1) 1 of _ -> 1 end :: !unify",
		"type box 'a = Box ('a -> 'a) 'a; fun l -> (fun f -> case Box (fun x -> f) f of _ -> 1 end) l :: list int -> int",
		"type arrow 'a 'b = Arrow ('a -> 'b); let id = Arrow (fun x -> x) in let ap = fun a -> fun x -> case a of Arrow f -> f x end in fun l -> Cons (ap id l) (Cons (ap id Nil) (ap id Nil)) :: list int -> list (list int)",
		"type nest 'a = Nest 'a (nest (list 'a)) | End; fun l -> Nest 1 (Nest l (Nest (Cons l Nil) End)) :: list int -> nest int",
		"type nest 'a = Nest 'a (nest (list 'a)) | End; fun l -> Nest 1 (Nest l (@Nest l End)) :: !occurs",
		"type nest 'a = Nest 'a (nest (list 'a)) | End; let rec f x = case x of End -> 0 | Nest _ r -> @f r end in fun l -> f (Nest 1 End) :: !occurs",
		"type one = X two | Y int; type two = Z one list2 | W; type list2 = L (list one) (list two); fun l -> Z (X W) (L Nil (Cons W Nil)) :: list int -> two",
	)
}

// TestPatterns: patterns of each kind at any depth, in cases of one branch and of many.
func TestPatterns(t *testing.T) {
	lines := []string{
		"case l of _ -> 1 end :: int",
		"case l of x -> x end :: list int",
		"case 1 of 1 -> l end :: list int",
		"case 1 of ~1 -> l | 0 -> Nil | 1 -> l | x -> Cons x l | _ -> l end :: list int",
		"case l of Nil -> Nil end :: list 'a",
		"case l of Cons x _ -> x + 1 end :: int",
		"case l of Cons _ r -> r end :: list int",
		"case l of Cons 1 (Cons x (Cons _ r)) -> Cons x r | Cons x Nil -> Cons x Nil | r -> r end :: list int",
		"case Cons l Nil of Cons (Cons 1 Nil) Nil -> 1 | Cons (Cons x _) (Cons (Cons y _) _) -> x + y | Cons Nil (Cons Nil Nil) -> 0 | Cons a (Cons b _) -> case a of Nil -> 1 | _ -> case b of Cons x _ -> x end end | _ -> 2 end :: int",
		"case True of True -> 1 | False -> 2 end :: int",
		"case Unit of Unit -> l end :: list int",
		"case P 1 l of P x y -> P y x end :: p (list int) int",
		"case P 1 (P True l) of P 1 (P True (Cons x _)) -> x | P x (P False _) -> x | P _ (P _ y) -> case y of Cons x _ -> x end end :: int",
		"case P Nil Nil of P x y -> P y x end :: p (list 'a) (list 'b)",
		"case P Nil Nil of P (Cons 1 _) y -> y | P x y -> y end :: list 'a",
		"case P Nil Nil of P (Cons 1 _) y -> P Nil y | P x y -> P x y end :: p (list int) (list 'a)",
		"case P Nil Nil of P x y -> P x y | P (Cons 1 _) (Cons True _) -> P Nil Nil end :: p (list int) (list bool)",
		"case fun x -> x of f -> P (f 1) (f 2) end :: p int int",
		"case fun x -> x of _ -> 1 end :: int",
		"case P (fun x -> x + 1) 2 of P f x -> f x end :: int",
		"(fun x -> case x of Cons 1 _ -> x | Cons y z -> z end) Nil :: list int",
		"(fun x -> case x of P (Cons y Nil) z -> Cons z y end) (P Nil 1) :: list int",
		"case (case l of Cons x _ -> P x True end) of P 1 y -> y | P _ y -> y end :: bool",
		"case l of Cons x r -> case r of Cons x r -> case r of Nil -> x end end end :: int",

		"case l of 1 -> 1 end :: main",
		"case 1 of @Nil -> 1 end :: !unify",
		"case fun x -> x of @1 -> 1 end :: !unify",
		"case fun x -> x of @Nil -> 1 end :: !unify",
		"case 1 of 1 -> 1 | @True -> 1 end :: !unify",
		"case True of True -> 1 | @1 -> 1 end :: !unify",
		"case True of True -> 1 | @Unit -> 1 end :: !unify",
		"case Cons 1 Nil of @Cons True _ -> 1 end :: !unify",
		"case Cons 1 Nil of Cons _ @1 -> 1 end :: !unify",
		"case Cons 1 Nil of Cons _ @Unit -> 1 end :: !unify",
		"case Cons 1 Nil of Cons 1 (@Cons True _) -> 1 end :: !unify",
		"case Cons 1 Nil of Cons 1 (Cons 2 (@Cons True _)) -> 1 end :: !unify",
		"case Cons 1 Nil of Cons True (@Cons 2 _) -> 1 end :: !unify",
		"case Cons 1 Nil of @Cons True (Cons False _) -> 1 end :: !unify",
		"case Cons 1 Nil of Nil -> 1 | @Cons (Cons _ _) _ -> 1 end :: !unify",
		"case Cons 1 Nil of x -> 1 | _ -> 2 | @P _ _ -> 3 end :: !unify",
		"case Cons 1 Nil of Cons x r -> x | Cons x r -> @r end :: !unify",
		"case Cons 1 Nil of Cons x r -> r | Cons x r -> @x end :: !unify",
		"(fun x -> case x of Cons y _ -> y | _ -> @x end) l :: !occurs",
		"(fun x -> case 1 of 1 -> x | _ -> (@Cons x Nil) end) l :: !occurs",
		"(fun x -> case 1 of 1 -> Cons x Nil | _ -> @x end) l :: !occurs",
		"(fun x -> case x of P y (Cons _ _) -> y | @1 -> 2 end) 1 :: !unify",
		"case 1 of 1 -> 1 | 2 -> @True | 3 -> Unit end :: !unify",
		"case 1 of 1 -> True | 2 -> False | 3 -> @Unit end :: !unify",
		"if 1 < 2 then 1 else @True :: !unify",
		"if 1 < 2 then True else @1 :: !unify",
		"(@1; 2) :: !unify",
		"(print 1; @2; 2) :: !unify",
		"@if 1 then 2 else 3 :: !unify",
	}
	const ahead = "type p 'a 'b = P 'a 'b; "
	for _, line := range lines {
		s, want, _ := strings.Cut(line, " :: ")
		switch {
		case want == "main":
			// l itself is of another type, then.
			wantFault(t, ahead+"@fun l -> "+s, errnos["main"])
		case want == "cons":
			wantFault(t, ahead+"fun l -> "+strings.Replace(s, "(Cons 2", "(@Cons 2", 1), errnos["unify"])
		case want[0] == '!':
			wantFault(t, ahead+"fun l -> "+s, errnos[want[1:]])
		default:
			wantType(t, ahead+"fun l -> "+s, "list int -> "+want)
		}
	}
}

// TestManyBranches: the fault is at the branch that has it, in a case of many.
func TestManyBranches(t *testing.T) {
	for _, bad := range []int{1, 2, 100, 198, 199, 200} {
		for _, what := range []string{"Nil -> 1", "@True -> 1", "Cons 1 @True -> 1", "Cons 1 (Cons _ @2) -> 1", "_ -> @l"} {
			l := []string{"Nil -> 0"}
			for i := range 200 {
				l = append(l, fmt.Sprintf("Cons %d _ -> %d", i, i))
			}
			l[bad] = what
			s := "fun l -> case Cons 1 l of " + strings.Join(l, " | ") + " end"
			if strings.Contains(what, "@") {
				wantFault(t, s, errnos["unify"])
			} else {
				wantType(t, s, "list int -> int")
			}
		}
	}
}

// TestMain: Main must take a list of integers, and what it tells must be without functions.
func TestMain(t *testing.T) {
	const ahead = `type p 'a 'b = P 'a 'b; type box 'a = Box ('a -> 'a) | None; type inn = In (list (box int)) | Out; type far = Far inn | Near far; type loop = Loop pool | Stop; type pool = Pool loop;
		type ph 'a = Ph; type args = Args (ph (int -> int)) | NoArgs; type deep 'a = Deep (p int (p int (list (p 'a (ph args))))) | Flat 'a; `
	for s, want := range map[string]string{
		"1": "!", "True": "!", "Nil": "!", "Cons 1 Nil": "!", "1 + 2": "!", "print 1": "!", "P 1 2": "!", "None": "!",
		"fun x -> x + 1": "!", "fun x -> print x": "!", "fun x -> if x then 1 else 2": "!", "fun x -> x 1": "!", "fun x -> case x of Unit -> 1 end": "!", "fun x -> case x of P _ _ -> 1 end": "!", "fun x -> case x of Cons True _ -> 1 | _ -> 2 end": "!", "fun x -> case x of Cons Nil _ -> 1 | _ -> 2 end": "!",
		"fun x -> case x of Cons (P _ _) _ -> 1 | _ -> 2 end": "!", "fun x -> Cons (x 1) x": "occurs",
		"fun x -> fun y -> x": "!", "fun x -> fun y -> 1": "!", "fun x -> fun y -> fun z -> z": "!", "fun l -> let f = fun x -> x in f": "!", "fun l -> Cons (fun x -> x) Nil": "!", "fun l -> P 1 (fun x -> x)": "!", "fun l -> P 1 (P l (Cons (fun x -> 1) Nil))": "!", "(fun x -> fun y -> y) 1": "list int -> list int", "(fun x -> fun y -> fun z -> y) 1": "!",
		"fun l -> None": "!", "fun l -> Box (fun x -> x)": "!", "fun l -> Cons None Nil": "!", "fun l -> P 1 (Cons None Nil)": "!", "fun l -> Out": "!", "fun l -> Cons Out Nil": "!", "fun l -> P Out 1": "!", "fun l -> Near (Far Out)": "!", "fun l -> Cons (Cons (Far Out) Nil) Nil": "!", "fun l -> NoArgs": "!", "fun l -> Deep (P 1 (P 1 Nil))": "!", "fun l -> Flat 1": "!", "fun l -> Flat l": "!",
		"fun l -> case None of Box f -> f 1 | None -> 2 end": "list int -> int", "fun l -> case Out of Out -> l end": "list int -> list int", "fun l -> case Flat l of Flat x -> x end": "list int -> list int",
		"fun l -> Stop": "list int -> loop", "fun l -> Pool (Loop (Pool Stop))": "list int -> pool", "fun l -> Cons (P Stop (Pool Stop)) Nil": "list int -> list (p loop pool)",
		"fun l -> Ph": "list int -> ph 'a", "fun l -> case Cons Ph (Cons (case Ph of Ph -> Ph end) Nil) of Cons x _ -> x end": "list int -> ph 'a", "fun l -> (fun x -> fun y -> case P (Cons x Nil) (Cons Ph Nil) of _ -> Cons Ph Nil end) 1 2": "list int -> list (ph 'a)",
		"let rec f x = f x in f": "list int -> 'a", "let rec f x = f x in f 1": "list int -> 'a", "let rec f x = f x in fun l -> f 1": "list int -> 'a", "let rec f x = f x in fun l -> Cons (f 1) Nil": "list int -> list 'a", "let rec f x = f x in fun l -> P (f 1) (P (f 2) l)": "list int -> p 'a (p 'b (list int))",
		"let rec f x = f x in fun l -> f 1 2": "list int -> 'a", "let rec f x = f x in (f 1; fun l -> f 2)": "list int -> 'a", "let rec f x = f x in P (f 1) 1": "!",
		"fun l -> l": "list int -> list int", "fun x -> Cons x Nil": "list int -> list (list int)", "fun x -> P x x": "list int -> p (list int) (list int)", "fun x -> case x of Cons y _ -> y | Nil -> 1 end": "list int -> int", "fun x -> case x of Cons y _ -> Cons (P y y) Nil | _ -> Nil end": "list int -> list (p int int)",
		"let id = fun x -> x in id": "list int -> list int", "let id = fun x -> x in id id": "list int -> list int", "let id = fun x -> x in id (fun l -> 1)": "list int -> int", "fun x -> 1": "list int -> int", "fun x -> Unit": "list int -> unit", "fun x -> True": "list int -> bool", "fun x -> print 1": "list int -> unit", "fun x -> Nil": "list int -> list 'a", "fun l -> Cons (Cons Nil Nil) Nil": "list int -> list (list (list 'a))",
		// A function in what a type's variable stands for.
		"fun l -> case P 1 (fun x -> x) of P x f -> f x end": "list int -> int", "let rec f x = f x in fun l -> case f 1 of Cons g _ -> g 1 + 1 end": "list int -> int", "fun x -> fun x -> fun x -> x": "!", "fun f -> f": "list int -> list int",
		"fun l -> (fun x -> x) (fun x -> x)": "!", "fun l -> case l of Nil -> fun x -> 1 | _ -> fun x -> x end": "!",
	} {
		switch want {
		case "!":
			// What stands in brackets has the place of what is within.
			inner := strings.TrimLeft(s, "(")
			wantFault(t, ahead+s[:len(s)-len(inner)]+"@"+inner, errnos["main"])
		case "occurs":
			wantFault(t, ahead+"fun x -> Cons (x 1) @x", errnos["unify"])
		default:
			wantType(t, ahead+s, want)
		}
	}
	// The place is Main's: of an application that of its first part, of what stands in brackets that of what is within.
	table(t, "  # a\n @1 :: !main", "(@fun x -> fun y -> 1) :: !main", "((@fun x -> fun y -> y) 1) 2 :: !main", "type t = A; (@fun x -> x) 1 :: !main", "type t = A; ((@fun x -> x) 1) :: !main", "((@1 + 2)) :: !main", "@let x = fun y -> y in 1 :: !main", "@case 1 of _ -> 2 end :: !main")
}

// TestScopeFirst: what scope tells is told ahead of all else.
func TestScopeFirst(t *testing.T) {
	table(t,
		"fun l -> @y :: !scope",
		"1 2 @y :: !scope",
		"fun x -> x x @y :: !scope",
		"fun l -> @P 1 y :: !scope",
		"let x = 1 2 in @Cons 1 :: !scope",
		"fun l -> case 1 of Nil -> 1 | @Nope -> 2 end :: !scope",
		"case 1 of Cons x @x -> 1 2 end :: !scope",
		"type t = A | A; 1 2 :: !decl",
		"type u = U; @type t = A v; 1 2 :: !decl",
		"@type t = A v; y :: !decl",
		"type t 'a = A | B 'a; @type u = U t; fun l -> l :: !decl",
		"type u = U; @type list = A; fun l -> l :: !decl",
	)
}
