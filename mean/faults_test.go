package mean

import (
	"fmt"
	"strings"
	"testing"

	"athanor/api"
	"athanor/infer"
	"athanor/scope"
	"athanor/useful"
)

// marked is a text without the @ in it, and where that stood.
func marked(s string) (string, int) {
	ahead, behind, ok := strings.Cut(s, "@")
	if !ok {
		return s, 0
	}
	return ahead + behind, len(ahead)
}

// wantFault holds Check, Run and Steps against a program's fault, whatever else there is to be refused.
func wantFault(t *testing.T, p api.Program, want api.Fault) {
	t.Helper()
	for _, n := range []int{0, 3, api.MaxInputs, api.MaxInputs + 1} {
		for _, fuel := range []int{-1, 0, 100, api.MaxEval, api.MaxEval + 1} {
			if _, _, got := checkAll(t, p, upTo(n), fuel); got != want || Check(p) != want {
				t.Fatalf("%s\nof %d numbers, %d: %v, not %v", brief(p), n, fuel, got, want)
			}
		}
	}
}

// manyBranches is a case of which it takes too many steps to tell whether its branches meet all.
func manyBranches() string {
	const n = 15
	s := "case bot 1 of "
	for i := range n {
		for _, b := range []string{"True", "False"} {
			row := "_"
			if i == n-1 {
				row = b
			}
			for k := n - 2; k >= 0; k-- {
				first := "_"
				if k == i {
					first = b
				}
				row = "P " + first + " (" + row + ")"
			}
			s += row + " -> 2 | "
		}
	}
	return s + "_ -> 3 end"
}

// doubled is a let of a type of too many nodes.
func doubled() string {
	s := "let d0 = P l l in "
	for i := range 20 {
		at := ""
		if i == 8 {
			at = "@"
		}
		s += fmt.Sprintf("let d%d = %sP d%d d%d in ", i+1, at, i, i)
	}
	return s + "1"
}

// TestFaults: each fault alone.
func TestFaults(t *testing.T) {
	for s, want := range map[string]api.Errno{
		"fun l -> @y":              api.ErrScope,
		"@l":                       api.ErrScope,
		"let x = @x in fun l -> l": api.ErrScope,
		"fun l -> @Foo":            api.ErrScope,
		"fun l -> @Cons 1":         api.ErrScope,
		"fun l -> @Nil l":          api.ErrScope,
		"fun l -> (fun x -> x) @x": api.ErrScope,
		"fun l -> case l of @Foo -> 1 | _ -> 2 end":      api.ErrScope,
		"fun l -> case l of Cons x @x -> 1 | _ -> 2 end": api.ErrScope,
		"fun l -> case l of Cons x _ -> 1 | _ -> @x end": api.ErrScope,
		"@type t = A | A; fun l -> l":                    api.ErrDecl,
		"@type int = A; fun l -> l":                      api.ErrDecl,
		"@type t = Nil; fun l -> l":                      api.ErrDecl,
		"@type t = A 'a; fun l -> l":                     api.ErrDecl,
		"type t = A; @type s = B u; fun l -> l":          api.ErrDecl,

		"@1":                              api.ErrMain,
		"@Nil":                            api.ErrMain,
		"@fun l -> fun x -> x":            api.ErrMain,
		"@fun l -> Cons (fun x -> x) Nil": api.ErrMain,
		"@fun x -> x + 1":                 api.ErrMain,
		"@fun l -> case l of Nil -> Nil | _ -> Cons (fun x -> x + 1) Nil end": api.ErrMain,
		"let rec f x = @f in f":                                  api.ErrOccurs,
		"fun x -> @x x":                                          api.ErrOccurs,
		"fun l -> @1 2":                                          api.ErrUnify,
		"fun l -> 1 + @Nil":                                      api.ErrUnify,
		"fun l -> print @True":                                   api.ErrUnify,
		"fun l -> case l of Nil -> 1 | _ -> @Nil end":            api.ErrUnify,
		"fun l -> case Nil of @1 -> 1 | _ -> 2 end":              api.ErrUnify,
		"fun l -> @if 1 then 2 else 3":                           api.ErrUnify,
		"type p 'a 'b = P 'a 'b; fun l -> " + doubled():          api.ErrMany,
		"fun l -> @case l of Nil -> 1 end":                       api.ErrMatch,
		"fun l -> @case l of Cons _ _ -> 1 end":                  api.ErrMatch,
		"fun l -> @case 1 of 1 -> 1 | 2 -> 2 end":                api.ErrMatch,
		"@case 1 of 1 -> fun l -> l end":                         api.ErrMatch,
		"fun l -> @case True of False -> 1 end":                  api.ErrMatch,
		"(fun x -> fun l -> 1) (fun y -> @case y of 1 -> 2 end)": api.ErrMatch,
	} {
		s, at := marked(s)
		wantFault(t, mustRead(s), api.Fault{Code: want, At: at})
	}
}

// TestManySteps: the fault of useful.Check that takes long to be found.
func TestManySteps(t *testing.T) {
	t.Parallel()
	s, at := marked("type p 'a 'b = P 'a 'b; let rec bot x = bot x in fun l -> @" + manyBranches())
	p, want := mustRead(s), api.Fault{Code: api.ErrMany, At: at}
	if r, fault := Run(p, upTo(api.MaxInputs+1), -1); fault != want || !sameResult(r, api.Result{}) {
		t.Error(told(r, 0), fault)
	}
	if steps := Steps(p, nil, 100); steps != 0 || Check(p) != want {
		t.Error(steps, Check(p))
	}
}

// faults is one program for each of those that look, of which it alone refuses it.
var faults = []string{"y", "1 1", "case 1 of 1 -> 2 end"}

func firstOf(p api.Program) api.Fault {
	_, fault := infer.Infer(p)
	for _, fault := range []api.Fault{scope.Check(p), fault, useful.Check(p)} {
		if fault != (api.Fault{}) {
			return fault
		}
	}
	return api.Fault{}
}

// TestFaultsInOrder: one ahead of another, wherever they stand.
func TestFaultsInOrder(t *testing.T) {
	codes := []api.Errno{api.ErrScope, api.ErrUnify, api.ErrMatch}
	for i := range faults {
		alone := mustRead("fun l -> " + faults[i])
		if got := firstOf(alone); got.Code != codes[i] {
			t.Fatal(faults[i], got)
		}
		wantFault(t, alone, firstOf(alone))
		for k := range faults {
			for _, form := range []string{"fun l -> (%s) + (%s)", "fun l -> let x = %s in %s", "fun l -> Cons (%s) (Cons (%s) Nil)", "let a = fun x -> %s in fun l -> %s"} {
				p := mustRead(fmt.Sprintf(form, faults[i], faults[k]))
				want := firstOf(p)
				if want.Code != codes[min(i, k)] {
					t.Fatal(brief(p), want)
				}
				wantFault(t, p, want)
			}
		}
	}
	for s, want := range map[string]api.Errno{
		"fun l -> (case 1 of 1 -> 2 end) + (1 1) + @y":                           api.ErrScope,
		"fun l -> case (case 1 of 1 -> 2 end) of Nil -> 1 1 | 3 -> @y end":       api.ErrScope,
		"fun l -> (case 1 of 1 -> 2 end) + (@1 1)":                               api.ErrUnify,
		"let x = @case 1 of 1 -> 1 / 0 end in fun l -> 1 / 0":                    api.ErrMatch,
		"let rec f x = f x in let y = f 1 in fun l -> @z":                        api.ErrScope,
		"let rec f x = f x in let y = f 1 in fun l -> 1 + @Nil":                  api.ErrUnify,
		"let x = case Nil of Nil -> print 1 end in let y = 1 / 0 in fun l -> @w": api.ErrScope,
	} {
		s, at := marked(s)
		wantFault(t, mustRead(s), api.Fault{Code: want, At: at})
	}
}

// TestNotOfParse: what parse.Check refuses.
func TestNotOfParse(t *testing.T) {
	wantFault(t, api.Program{}, api.Fault{Code: api.ErrArg})
	for i, change := range []func(p *api.Program){
		func(p *api.Program) { p.Main.Kind = 0 },
		func(p *api.Program) { p.Main.Kind = -1 },
		func(p *api.Program) { p.Main.Kind = api.ExPrint + 1 },
		func(p *api.Program) { p.Main.Args = nil },
		func(p *api.Program) { p.Main.Args = append(p.Main.Args, p.Main) },
		func(p *api.Program) { p.Main.Name = "" },
		func(p *api.Program) { p.Main.Name = "Foo" },
		func(p *api.Program) { p.Main.Pats = []api.Pat{{Kind: api.PatAny}} },
		func(p *api.Program) { p.Main.Args[0].Args = p.Main.Args[0].Args[:2] },
		func(p *api.Program) { p.Main.Args[0].Pats = nil },
		func(p *api.Program) { p.Main.Args[0].Pats[0].Kind = 0 },
		func(p *api.Program) { p.Main.Args[0].Args[0].Kind = 77 },
		func(p *api.Program) { p.Main.Args[0].Args[1].N = 1 << 30 },
		func(p *api.Program) { p.Main.Args[0].Args[2].Name = "@" },
		func(p *api.Program) { p.Decls[0].Name = "" },
		func(p *api.Program) { p.Decls[0].Cons = nil },
	} {
		p := mustRead("type t = A; fun l -> case l of Nil -> 1 | Cons x _ -> x + 2 end")
		p.Main.At = 5
		change(&p)
		if scope.Check(p) != (api.Fault{Code: api.ErrArg}) {
			t.Error(i, scope.Check(p))
		}
		wantFault(t, p, api.Fault{Code: api.ErrArg})
	}
	// More expressions than there may be, deeper than they may be.
	sum := api.Expr{Kind: api.ExInt}
	for range 300 {
		sum = api.Expr{Kind: api.ExPrim, Name: "+", Args: []api.Expr{sum, {Kind: api.ExInt, N: 1}}}
	}
	wantFault(t, api.Program{Main: api.Expr{Kind: api.ExFun, Name: "l", Args: []api.Expr{sum}}}, api.Fault{Code: api.ErrArg})
}

// TestNoFault: Check tells none of a program that ends in any way, and none of what is wrong with the arguments.
func TestNoFault(t *testing.T) {
	for _, s := range []string{"fun l -> l", "fun l -> 1 / 0", "let rec f x = f x in f 1", "let rec f x = f x in f", "let x = 1 / 0 in fun l -> x", "let rec f x = print x; f x in fun l -> f 1"} {
		p := mustRead(s)
		if got := Check(p); got != (api.Fault{}) {
			t.Error(s, got)
		}
		for _, n := range []int{0, api.MaxInputs, api.MaxInputs + 1} {
			for _, fuel := range []int{-1, 0, 7, api.MaxEval, api.MaxEval + 1} {
				want := api.Fault{}
				if n > api.MaxInputs || fuel < 0 || fuel > api.MaxEval {
					want.Code = api.ErrArg
				}
				if r, steps, got := checkAll(t, p, upTo(n), fuel); got != want {
					t.Errorf("%s of %d numbers, %d: %s, %v, not %v", s, n, fuel, cut(told(r, steps)), got, want)
				}
			}
		}
	}
}
