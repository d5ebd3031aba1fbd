package mean

import (
	"testing"

	"athanor/api"
)

func TestExamples(t *testing.T) {
	checkAsked(t, []asked{
		{"fun l -> case l of Nil -> 0 | Cons x _ -> x + 1 end", []int{5, 7}, "done 1 [] [6]"},
		{"fun l -> 1 / 0", nil, "div 1 []"},
		{"let rec f x = f x in fun l -> f 1", nil, "fuel 1000 []"},
		{"fun l -> l", []int{5, 7}, "done 1 [] [1 5 1 7 0]"},
		{"fun l -> print 3; 4", nil, "done 1 [3] [4]"},
	})
}

// TestKinds: each kind alone, as what the input's function tells.
func TestKinds(t *testing.T) {
	bodies(t,
		"l", "done 1 [] [0]",
		"7", "done 1 [] [7]",
		"~7", "done 1 [] [-7]",
		"1073741823", "done 1 [] [1073741823]",
		"~1073741824", "done 1 [] [-1073741824]",
		"(fun x -> 3) 4", "done 2 [] [3]",
		"(fun x -> x) 4", "done 2 [] [4]",
		"let x = 4 in x", "done 1 [] [4]",
		"let x = 4 in 5", "done 1 [] [5]",
		"let rec f x = x in 6", "done 1 [] [6]",
		"let rec f x = x in f 6", "done 2 [] [6]",
		"case 4 of x -> x end", "done 1 [] [4]",
		"case 4 of 4 -> 1 | _ -> 2 end", "done 1 [] [1]",
		"case 4 of 5 -> 1 | _ -> 2 end", "done 1 [] [2]",
		"Nil", "done 1 [] [0]",
		"Cons 5 Nil", "done 1 [] [1 5 0]",
		"Unit", "done 1 [] [0]",
		"False", "done 1 [] [0]",
		"True", "done 1 [] [1]",
		"1 + 2", "done 1 [] [3]",
		"print 9", "done 1 [9] [0]",
		"if True then 1 else 2", "done 1 [] [1]",
		"if False then 1 else 2", "done 1 [] [2]",
		"print 1; 2", "done 1 [1] [2]",
	)
}

// TestMains: what there may be instead of a function, and what is evaluated ahead of the input.
func TestMains(t *testing.T) {
	checkAsked(t, []asked{
		{"let x = print 1 in fun l -> x", nil, "done 1 [1] [0]"},
		{"let rec f l = l in f", []int{3}, "done 1 [] [1 3 0]"},
		{"let rec f l = case l of Nil -> 0 | Cons x r -> x + f r end in f", []int{3, 4, 5}, "done 4 [] [12]"},
		{"case Cons 1 Nil of Cons x _ -> fun l -> x | _ -> fun l -> 0 end", nil, "done 1 [] [1]"},
		{"(fun x -> fun l -> x) 7", nil, "done 2 [] [7]"},
		{"(fun f -> f) (fun l -> l)", []int{2}, "done 2 [] [1 2 0]"},
		{"if 1 < 2 then fun l -> 1 else fun l -> 2", nil, "done 1 [] [1]"},
		{"print 1; (print 2; fun l -> print 3; 4)", nil, "done 1 [1 2 3] [4]"},
		{"let x = 1 / 0 in fun l -> x", nil, "div 0 []"},
		{"print 1; let x = 1 % 0 in fun l -> x", nil, "div 0 [1]"},
		{"let rec f x = f x in f 1", nil, "fuel 1000 []"},
		{"let rec f x = f x in f", nil, "fuel 1000 []"},
		{"type t = A (list int -> int); case A (fun l -> 5) of A f -> f end", nil, "done 1 [] [5]"},
	})
}

// TestOperations: each, at numbers of either sign and at those that go round.
func TestOperations(t *testing.T) {
	bodies(t,
		"Cons (7 + 2) (Cons (7 - 9) (Cons (~7 * 3) Nil))", "done 1 [] [1 9 1 -2 1 -21 0]",
		"Cons (7 / 2) (Cons (~7 / 2) (Cons (7 / ~2) (Cons (~7 / ~2) Nil)))", "done 1 [] [1 3 1 -3 1 -3 1 3 0]",
		"Cons (7 % 2) (Cons (~7 % 2) (Cons (7 % ~2) (Cons (~7 % ~2) Nil)))", "done 1 [] [1 1 1 -1 1 1 1 -1 0]",
		"Cons (1 < 2) (Cons (2 < 2) (Cons (3 < 2) (Cons (~1 < 0) Nil)))", "done 1 [] [1 1 1 0 1 0 1 1 0]",
		"Cons (1 == 2) (Cons (2 == 2) (Cons (3 == 2) (Cons (0 == 0) Nil)))", "done 1 [] [1 0 1 1 1 0 1 1 0]",
		"1073741823 + 1", "done 1 [] [-1073741824]",
		"~1073741824 - 1", "done 1 [] [1073741823]",
		"1073741823 * 1073741823", "done 1 [] [1]",
		"~1073741824 * ~1073741824", "done 1 [] [0]",
		"65536 * 32768", "done 1 [] [0]",
		"65536 * 16384", "done 1 [] [-1073741824]",
		"~1073741824 / ~1", "done 1 [] [-1073741824]",
		"~1073741824 % ~1", "done 1 [] [0]",
		"1073741823 + 1 < 0", "done 1 [] [1]",
		"1073741823 + 1 == ~1073741824", "done 1 [] [1]",
		"0 / 5", "done 1 [] [0]",
		"5 / 0", "div 1 []",
		"5 % 0", "div 1 []",
		"0 / 0", "div 1 []",
		"0 % 0", "div 1 []",
		"5 / (3 - 3)", "div 1 []",
		"5 % (1073741823 + 1073741823 + 2)", "div 1 []",
	)
	bodies(t,
		"if 1 < 2 then 10 else 20", "done 1 [] [10]",
		"if 2 < 1 then 10 else 20", "done 1 [] [20]",
		"case 1 == 1 of False -> 0 | True -> 5 end", "done 1 [] [5]",
		"case 1 == 2 of True -> 0 | False -> 5 end", "done 1 [] [5]",
	)
}

// TestOrder: the parts of each kind, by what they write.
func TestOrder(t *testing.T) {
	bodies(t,
		"(print 1; fun x -> print 3; x) (print 2; 9)", "done 2 [1 2 3] [9]",
		"(print 1; fun x -> fun y -> print 4; x - y) (print 2; 9) (print 3; 5)", "done 3 [1 2 3 4] [4]",
		"(print 1; fun x -> print 3; fun y -> print 5; x) (print 2; 9) (print 4; 5)", "done 3 [1 2 3 4 5] [9]",
		"(print 1; 5) + (print 2; 6)", "done 1 [1 2] [11]",
		"(print 1; 5) - (print 2; 6) * (print 3; 7)", "done 1 [1 2 3] [-37]",
		"(print 1; 5) < (print 2; 6)", "done 1 [1 2] [1]",
		"(print 1; 5) == (print 2; 6)", "done 1 [1 2] [0]",
		"(print 1; 5) / (print 2; 0)", "div 1 [1 2]",
		"(print 1; 0) % (print 2; 0)", "div 1 [1 2]",
		"Cons (print 1; 5) (print 2; Cons (print 3; 6) (print 4; Nil))", "done 1 [1 2 3 4] [1 5 1 6 0]",
		"let x = print 1; 5 in print 2; x", "done 1 [1 2] [5]",
		"let rec f x = print 2; x in print 1; f 3", "done 2 [1 2] [3]",
		"case print 1; 5 of 4 -> print 2; 0 | 5 -> print 3; 1 | _ -> print 4; 2 end", "done 1 [1 3] [1]",
		"print (print 1; 2)", "done 1 [1 2] [0]",
		"print (print (print 1; 2); 3); 4", "done 1 [1 2 3] [4]",
		"if print 1; True then print 2 else print 3", "done 1 [1 2] [0]",
		"if print 1; False then print 2 else print 3", "done 1 [1 3] [0]",
	)
	// Eight parts, and each of them ahead of an end within the others.
	const eight = "type e = E int int int int int int int int; fun l -> "
	checkAsked(t, []asked{
		{eight + "E (print 1; 8) (print 2; 7) (print 3; 6) (print 4; 5) (print 5; 4) (print 6; 3) (print 7; 2) (print 8; 1)", nil, "done 1 [1 2 3 4 5 6 7 8] [0 8 7 6 5 4 3 2 1]"},
		{eight + "E (print 1; 8) (print 2; 7) (print 3; 6) (1 / 0) (print 5; 4) (print 6; 3) (print 7; 2) (print 8; 1)", nil, "div 1 [1 2 3]"},
	})
}

// TestEndWithin: an end within a part ends all, and no part behind it is evaluated.
func TestEndWithin(t *testing.T) {
	const div = "(print 1; 1 / 0)"
	for _, s := range []string{
		div + " + (print 2; 3)",
		"(fun x -> fun y -> print 2; 3) " + div + " (print 3; 4)",
		"(case " + div + " of _ -> fun x -> x end) (print 2; 3)",
		"let x = " + div + " in print 2; 3",
		"case " + div + " of 0 -> print 2; 1 | _ -> print 3; 2 end",
		"Cons " + div + " (print 2; Nil)",
		"print " + div,
		"let rec f x = " + div + " in f (f 1)",
		"(fun f -> f (f 1)) (fun x -> " + div + ")",
	} {
		p := mustRead("fun l -> " + s)
		r, _, fault := checkAll(t, p, nil, 1000)
		if r.End != api.RunDiv || len(r.Writes) != 1 || fault != (api.Fault{}) {
			t.Errorf("%s: %s, %v", s, told(r, 0), fault)
		}
	}
}
