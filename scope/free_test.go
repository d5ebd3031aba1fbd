package scope

import (
	"fmt"
	"slices"
	"strings"
	"testing"

	"athanor/api"
)

func TestFree(t *testing.T) {
	for s, want := range map[string]string{
		"1": "", "x": "x", "x x": "x", "x y x": "x y", "y x y": "y x", "Nil": "", "Cons y (Cons x Nil)": "y x", "z + y * x": "z y x", "print x": "x",
		"fun x -> x": "", "fun x -> y": "y", "fun x -> y x z": "y z", "(fun x -> x) x": "x", "x (fun x -> x)": "x", "(fun x -> y) x y": "y x",
		"let x = x in x": "x", "let x = y in x z": "y z", "let x = y in y": "y", "let x = 1 in x": "", "(let x = 1 in x) y x": "y x",
		"let rec f x = f x y in f x z": "y x z", "let rec f x = 1 in x f": "x", "let rec x x = x in x": "", "(let rec f x = f in f) x f": "x f",
		"case x of x -> x end": "x", "case 1 of x -> x y | y -> y x end": "y x", "case a of Cons b (Cons c _) -> b c d | d -> d b end": "a d b", "case 1 of Cons x x -> x | _ -> x end": "x",
		"if c then b else a": "c b a", "c; b; a; c": "c b a", "fun x -> let y = x in fun z -> x y z w": "w",
		"(fun x -> (fun x -> x) x) x": "x", "fun x -> (fun x -> x) x": "", "let x = (let x = x in x) in x": "x",
	} {
		p := read(t, s)
		if got := checkFree(t, p.Main); !slices.Equal(got, strings.Fields(want)) {
			t.Errorf("%s: %q, not %q", s, got, want)
		}
	}
}

// parts is so many parts that want names of their own, and one that all of them want.
func parts(n int) []api.Expr {
	var l []api.Expr
	for i := range n {
		l = append(l, app(name(fmt.Sprint("p", i)), name("x")))
	}
	return l
}

// TestFreeOfAny: any kind with any number of parts and patterns binds just where it is said.
func TestFreeOfAny(t *testing.T) {
	pats := []api.Pat{none, pvar("x"), pcon("A", none, pvar("x")), {Kind: 9, Name: "x", Args: []api.Pat{pvar("x")}}, {Kind: api.PatVar, Name: "y", Args: []api.Pat{pvar("x")}}, {Kind: api.PatAny, Name: "x"}, {Kind: 9, Name: "x"}, {Kind: -1, Args: []api.Pat{{Kind: api.PatInt, Args: []api.Pat{pvar("x")}}}}, {}}
	binds := func(i int) bool { return slices.Contains([]int{1, 2, 3, 4, 7}, i) }
	for _, kind := range []int{-1 << 63, -1, 0, 1, 2, 3, 4, 5, 6, 7, 8, 9, 10, 11, 77, 1<<63 - 1} {
		for args := range 12 {
			for n := range len(pats) + 1 {
				for _, names := range [][2]string{{"x", "z"}, {"z", "x"}, {"x", "x"}, {"z", "z"}, {"", ""}} {
					e := api.Expr{Kind: kind, Name: names[0], Param: names[1], N: 5, Args: parts(args), Pats: pats[:n]}
					var want []string
					tell := func(s string) {
						if !slices.Contains(want, s) {
							want = append(want, s)
						}
					}
					if kind == api.ExVar {
						tell(names[0])
					}
					for i := range args {
						tell(fmt.Sprint("p", i))
						bound := false
						switch kind {
						case api.ExFun:
							bound = i == 0 && names[0] == "x"
						case api.ExLet:
							bound = i == 1 && names[0] == "x"
						case api.ExRec:
							bound = i < 2 && names[0] == "x" || i == 0 && names[1] == "x"
						case api.ExCase:
							bound = i > 0 && i <= n && binds(i-1)
						}
						if !bound {
							tell("x")
						}
					}
					if got := checkFree(t, e); !slices.Equal(got, want) {
						t.Errorf("kind %d, %d args, %d pats, %q: %q, not %q", kind, args, n, names, got, want)
					}
					checkFree(t, fun("x", e))
					checkFree(t, app(e, app(name("x"), e)))
				}
			}
		}
	}
}

// oddExprs is expressions that never come of parse.
func oddExprs() []api.Expr {
	x, y := name("x"), name("y")
	return []api.Expr{
		{}, {Kind: 77, Name: "q", Args: []api.Expr{name("q")}}, {Kind: -1, Args: []api.Expr{x, y}, Pats: []api.Pat{pvar("x")}},
		{Kind: api.ExVar}, {Kind: api.ExVar, Name: "x", Args: []api.Expr{x, y}}, {Kind: api.ExVar, Name: "no name"}, {Kind: api.ExVar, Name: "fun"}, {Kind: api.ExVar, Name: "X"},
		{Kind: api.ExInt, N: 1 << 30}, {Kind: api.ExInt, Args: []api.Expr{x}},
		{Kind: api.ExFun, Name: "x"}, {Kind: api.ExFun, Name: "x", Args: []api.Expr{x, x}}, {Kind: api.ExFun, Name: "x", Param: "y", Args: []api.Expr{y}}, {Kind: api.ExFun, Args: []api.Expr{{Kind: api.ExVar}}},
		{Kind: api.ExApp, Args: []api.Expr{x}}, {Kind: api.ExApp, Name: "x", Args: []api.Expr{x, x}},
		{Kind: api.ExLet, Name: "x", Args: []api.Expr{x}}, {Kind: api.ExLet, Name: "x", Args: []api.Expr{y, x, x}}, {Kind: api.ExLet, Name: "x", Args: []api.Expr{{}, x, y}, Pats: []api.Pat{pvar("y")}},
		{Kind: api.ExRec, Name: "x", Param: "y"}, {Kind: api.ExRec, Name: "x", Args: []api.Expr{x, x}}, {Kind: api.ExRec, Name: "x", Param: "y", Args: []api.Expr{app(x, y)}}, {Kind: api.ExRec, Name: "x", Param: "y", Args: []api.Expr{y, x, app(x, y)}},
		{Kind: api.ExCase}, {Kind: api.ExCase, Args: []api.Expr{x}}, {Kind: api.ExCase, Pats: []api.Pat{pvar("x")}}, {Kind: api.ExCase, Args: []api.Expr{x, x, x}, Pats: []api.Pat{pvar("x")}}, {Kind: api.ExCase, Args: []api.Expr{x, x}, Pats: []api.Pat{pvar("x"), pvar("y")}}, {Kind: api.ExCase, Args: []api.Expr{y, x}, Pats: []api.Pat{{Kind: 9, Args: []api.Pat{pvar("x")}}}},
		{Kind: api.ExCon}, {Kind: api.ExCon, Name: "cons"}, con("Cons", slices.Repeat([]api.Expr{x}, 9)...), {Kind: api.ExPrim, Name: "=", Args: []api.Expr{x, y}}, {Kind: api.ExPrim, Name: "+", Args: []api.Expr{x}}, {Kind: api.ExPrint}, {Kind: api.ExPrint, Args: []api.Expr{x, y}},
	}
}

// oddPrograms is programs that never come of parse, and have other faults as well.
func oddPrograms() []api.Program {
	a := []api.Con{{Name: "A"}}
	odd := []api.Decl{
		{}, {Name: "t"}, {Name: "T", Cons: a}, {Name: "fun", Cons: a}, {Name: "int"}, {Name: "t", Params: []string{"", ""}, Cons: a}, {Name: "t", Params: []string{"A"}, Cons: a}, {Name: "t", Params: strings.Fields("a b c d e"), Cons: a},
		{Name: "t", Cons: []api.Con{{}}}, {Name: "t", Cons: []api.Con{{Name: "a"}, {Name: "a"}}}, {Name: "t", Cons: slices.Repeat(a, 33)}, {Name: "t", Cons: []api.Con{{Name: "A", Fields: make([]api.Type, 3)}}}, {Name: "t", Cons: []api.Con{{Name: "A", Fields: slices.Repeat([]api.Type{{Kind: api.TyInt}}, 9)}}},
	}
	for _, x := range []api.Type{{}, {Kind: 9, Name: "a", N: 3}, {Kind: api.TyInt, Name: "int"}, {Kind: api.TyVar}, {Kind: api.TyVar, N: 1}, {Kind: api.TyVar, Name: "a", N: 1}, {Kind: api.TyFun, Args: make([]api.Type, 1)}, {Kind: api.TyCon}, {Kind: api.TyCon, Name: "int"}, {Kind: api.TyCon, Name: "list", N: -4, Args: []api.Type{{Kind: api.TyInt}}}} {
		odd = append(odd, api.Decl{Name: "t", Params: []string{"a"}, Cons: []api.Con{{Name: "A", Fields: []api.Type{{Kind: api.TyInt}, x}}}})
	}
	out := []api.Program{{}, {Main: api.Expr{Kind: 77}}, {Decls: make([]api.Decl, 40), Main: one}}
	for i, d := range odd {
		d.At = 3 + i
		bad := api.Decl{Name: "int", Cons: a, At: 2}
		out = append(out, api.Program{Decls: []api.Decl{d}, Main: one}, api.Program{Decls: []api.Decl{bad, d}, Main: name("nope")}, api.Program{Decls: []api.Decl{d, bad, d}, Main: one})
	}
	return out
}
