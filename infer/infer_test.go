package infer

import (
	"strings"
	"testing"

	"athanor/api"
)

// TestExamples: those of the chapter, and of the whole that are about types.
func TestExamples(t *testing.T) {
	table(t,
		"fun l -> 1 :: list int -> int",
		"fun l -> l :: list int -> list int",
		"let id = fun x -> x in fun l -> id (id l) :: list int -> list int",
		"fun x -> @x x :: !occurs",
		"fun l -> fun x -> x :: !main",
		"1 :: !main",
		"fun l -> print 3; 4 :: list int -> int",
		"let rec f x = f x in fun l -> f 1 :: list int -> 'a",
		"fun l -> 1 / 0 :: list int -> int",
		"fun l -> case l of Nil -> 1 end :: list int -> int",
		// That of README.md.
		"fun l -> let id = fun x -> x in Cons (id 1) (id l) :: list int -> list int",
	)
}

// TestKinds: each kind alone as a program.
func TestKinds(t *testing.T) {
	table(t,
		"1 :: !main",
		"~5 :: !main",
		"True :: !main",
		"Nil :: !main",
		"Cons 1 Nil :: !main",
		"1 + 2 :: !main",
		"1 < 2 :: !main",
		"print 1 :: !main",
		"@1; 2 :: !unify",
		"fun l -> 1 :: list int -> int",
		"(fun x -> x) (fun l -> l) :: list int -> list int",
		"(fun x -> fun l -> x) 1 :: list int -> int",
		"let x = 1 in fun l -> x :: list int -> int",
		"let rec f x = 1 in f :: list int -> int",
		"let rec f x = f x in f :: list int -> 'a",
		"let rec f x = f x in f 1 :: list int -> 'a",
		"case 1 of _ -> fun l -> 1 end :: list int -> int",
		"case fun l -> l of f -> f end :: list int -> list int",
		"if True then fun l -> 1 else fun l -> 2 :: list int -> int",
		"print 1; fun l -> 1 :: list int -> int",
		"(@fun l -> 1); 2 :: !unify",
	)
}

// inner is an expression of each kind, where l is a list int, n an int and id takes all types to themselves; with its type.
type inner struct{ s, is string }

func inners() []inner {
	return []inner{
		{"l", "list int"}, {"n", "int"}, {"id", "fun"}, {"7", "int"}, {"~1", "int"}, {"fun x -> x", "fun"}, {"fun x -> x + 1", "fun int"}, {"fun x -> Cons x l", "fun int list int"}, {"id n", "int"}, {"id l", "list int"}, {"id id", "fun"},
		{"let y = n in y", "int"}, {"let y = id in y l", "list int"}, {"let y = id in y", "fun"}, {"let rec f x = x in f n", "int"}, {"let rec f x = f l in l", "list int"}, {"let rec f x = x in f", "fun"},
		{"case n of 1 -> n | m -> m end", "int"}, {"case l of Cons x r -> r | r -> r end", "list int"}, {"case n of _ -> id end", "fun"}, {"if n < 1 then l else Nil", "list int"},
		{"Unit", "unit"}, {"True", "bool"}, {"Nil", "list 'a"}, {"Cons n Nil", "list int"}, {"Cons l Nil", "list (list int)"}, {"n + 1", "int"}, {"n - n", "int"}, {"2 * n", "int"}, {"n / 2", "int"}, {"n % 2", "int"}, {"n < 1", "bool"}, {"n == n", "bool"}, {"print n", "unit"}, {"print n; l", "list int"},
	}
}

// outer is an expression of each kind with a gap, at the @: what may stand there (any, or that type), and the whole's type; of is that of what stands there.
type outer struct{ s, takes, is string }

func outers() []outer {
	return []outer{
		{"(fun z -> @) 1", "any", "of"}, {"(fun l -> @) l", "any", "of"}, {"@ n", "fun", "int"}, {"id @", "any", "of"}, {"(fun z -> z) @", "any", "of"}, {"(fun z -> z + 1) @", "int", "int"}, {"(fun z -> fun y -> y) @ l", "any", "list int"},
		{"let z = @ in z", "any", "of"}, {"let z = @ in l", "any", "list int"}, {"let z = @ in z + 1", "int", "int"}, {"let z = id in @", "any", "of"}, {"let z = id in z @", "any", "of"}, {"let l = l in @", "any", "of"},
		{"let rec f z = @ in f 1", "any", "of"}, {"let rec f z = @ in n", "any", "int"}, {"let rec f z = z in @", "any", "of"}, {"let rec f z = z in f @", "any", "of"}, {"let rec f z = n + f (f @) in f n", "int", "int"},
		{"case @ of z -> z end", "any", "of"}, {"case @ of _ -> n end", "any", "int"}, {"case @ of 1 -> l | _ -> Nil end", "int", "list int"}, {"case @ of Nil -> n | Cons _ _ -> 2 end", "list", "int"}, {"case @ of Unit -> n end", "unit", "int"}, {"case @ of Cons 1 r -> r | Cons _ (Cons y r) -> Cons y r | r -> r end", "list int", "list int"},
		{"case n of _ -> @ end", "any", "of"}, {"case l of Nil -> @ | Cons n _ -> n end", "int", "int"}, {"case l of Cons n l -> @ | _ -> l end", "list int", "list int"}, {"case n of 1 -> True | 2 -> @ | _ -> False end", "bool", "bool"},
		{"if @ then n else 2", "bool", "int"}, {"if n < 1 then @ else 2", "int", "int"}, {"if n == 1 then l else @", "list int", "list int"}, {"@; l", "unit", "list int"}, {"print n; @", "any", "of"},
		{"Cons @ Nil", "any", "list of"}, {"Cons 1 @", "list int", "list int"}, {"Cons l (Cons @ Nil)", "list int", "list (list int)"}, {"Cons @ l", "int", "list int"},
		{"@ + 1", "int", "int"}, {"1 - @", "int", "int"}, {"@ < n", "int", "bool"}, {"n == @", "int", "bool"}, {"print @", "int", "unit"},
	}
}

// fits tells whether something of a type may stand where another is taken.
func fits(takes, is string) bool {
	switch {
	case takes == "any" || takes == is:
		return true
	case takes == "fun":
		return is == "fun" || strings.HasPrefix(is, "fun int ") || is == "fun int"
	}
	return strings.HasPrefix(takes, "list") && is == "list 'a" || takes == "list" && strings.HasPrefix(is, "list")
}

// filled is the outer expression with the inner one in it, and its type; false, if that can't stand there.
func (o outer) filled(in inner) (inner, bool) {
	out := inner{strings.Replace(o.s, "@", "("+in.s+")", 1), o.is}
	switch {
	case o.is == "of":
		out.is = in.is
	case o.is == "list of" && strings.Contains(in.is, " "):
		out.is = "list (" + in.is + ")"
	case o.is == "list of":
		out.is = "list " + in.is
	case o.takes == "fun" && in.is == "fun int list int":
		out.is = "list int"
	case strings.HasPrefix(o.takes, "fun"):
		out.is = "int"
	}
	return out, fits(o.takes, in.is)
}

// checkWithin asks for the program whose result is such an expression.
func checkWithin(t *testing.T, x inner, fits bool) {
	t.Helper()
	const ahead = "let id = fun x -> x in fun l -> case Cons 1 l of _ -> case 1 of n -> "
	s := ahead + x.s + " end end"
	got, fault := checkAll(t, mustRead(s))
	switch {
	case !fits:
		if fault.Code != api.ErrUnify || fault.At < len(ahead) {
			t.Errorf("%s: %s, %v", s, got, fault)
		}
	case strings.Contains(x.is, "fun"):
		if fault != (api.Fault{Code: api.ErrMain}) {
			t.Errorf("%s: %s, %v", s, got, fault)
		}
	case got != "list int -> "+x.is || fault != (api.Fault{}):
		t.Errorf("%s: %s, %v, not %s", s, got, fault, x.is)
	}
}

// TestWithin: each kind alone, within each place of each other kind, and of one more around that.
func TestWithin(t *testing.T) {
	t.Parallel()
	for _, in := range inners() {
		checkWithin(t, in, true)
		for _, o := range outers() {
			x, good := o.filled(in)
			checkWithin(t, x, good)
			if !good {
				continue
			}
			for _, p := range outers() {
				y, good := p.filled(x)
				checkWithin(t, y, good)
			}
		}
	}
}

// TestLists: programs of some size.
func TestLists(t *testing.T) {
	const lists = `let rec map f = fun l -> case l of Nil -> Nil | Cons x r -> Cons (f x) (map f r) end in
		let rec fold f = fun a -> fun l -> case l of Nil -> a | Cons x r -> fold f (f a x) r end in
		let rev = fold (fun a -> fun x -> Cons x a) Nil in
		let rec append a = fun b -> case a of Nil -> b | Cons x r -> Cons x (append r b) end in
		let flat = fun l -> fold append Nil l in
		let rec zip a = fun b -> case a of Nil -> Nil | Cons x r -> case b of Nil -> Nil | Cons y q -> Cons (P x y) (zip r q) end end in
		let const = fun x -> fun y -> x in let compose = fun f -> fun g -> fun x -> f (g x) in
		`
	for line, want := range map[string]string{
		"fun l -> rev (rev l)":                                     "list int -> list int",
		"fun l -> map (fun x -> Cons x Nil) l":                     "list int -> list (list int)",
		"fun l -> flat (map (fun x -> Cons x (Cons x Nil)) l)":     "list int -> list int",
		"fun l -> zip l (map (fun x -> x < 2) l)":                  "list int -> list (p int bool)",
		"fun l -> zip (zip l l) (zip l (map (const l) l))":         "list int -> list (p (p int int) (p int (list int)))",
		"fun l -> zip Nil (map (const Nil) l)":                     "list int -> list (p 'a (list 'b))",
		"fun l -> zip (rev (Cons l Nil)) (rev l)":                  "list int -> list (p (list int) int)",
		"fold (fun a -> fun x -> a + x) 0":                         "list int -> int",
		"fold (fun a -> fun x -> if a then x < 1 else False) True": "list int -> bool",
		"compose rev rev":                                          "list int -> list int",
		"compose (map (const Nil)) rev":                            "list int -> list (list 'a)",
		"map (fun x -> print x)":                                   "list int -> list unit",
		"fun l -> map (fun f -> f l) (map const l)":                "list int -> list int",
		"const Nil": "list int -> list 'a",
		"compose (const (Cons 1 Nil)) (map (const Nil))": "list int -> list int",
		"rev":                               "list int -> list int",
		"append (Cons 1 Nil)":               "list int -> list int",
		"fun l -> compose rev":              "!main",
		"const":                             "!main",
		"flat":                              "!main",
		"compose compose":                   "!main",
		"fun l -> fold (const (const 1)) l": "!main",
	} {
		table(t, "type p 'a 'b = P 'a 'b; @"[:len("type p 'a 'b = P 'a 'b; ")+strings.Count(want, "!")]+lists+line+" :: "+want)
	}
}
