package scope

import (
	"fmt"
	"slices"
	"testing"

	"athanor/api"
)

// Small things to make others of.
var (
	one  = api.Expr{Kind: api.ExInt, N: 1}
	none = api.Pat{Kind: api.PatAny}
)

func name(s string) api.Expr { return api.Expr{Kind: api.ExVar, Name: s} }

func fun(s string, body api.Expr) api.Expr {
	return api.Expr{Kind: api.ExFun, Name: s, Args: []api.Expr{body}}
}

func app(f, a api.Expr) api.Expr { return api.Expr{Kind: api.ExApp, Args: []api.Expr{f, a}} }

func let(s string, a, b api.Expr) api.Expr {
	return api.Expr{Kind: api.ExLet, Name: s, Args: []api.Expr{a, b}}
}

func rec(s, param string, a, b api.Expr) api.Expr {
	return api.Expr{Kind: api.ExRec, Name: s, Param: param, Args: []api.Expr{a, b}}
}

func con(s string, args ...api.Expr) api.Expr {
	return api.Expr{Kind: api.ExCon, Name: s, Args: args}
}

func prim(a, b api.Expr) api.Expr {
	return api.Expr{Kind: api.ExPrim, Name: "+", Args: []api.Expr{a, b}}
}

func printed(a api.Expr) api.Expr { return api.Expr{Kind: api.ExPrint, Args: []api.Expr{a}} }

// cased is a case; each pattern has the branch at its place.
func cased(of api.Expr, pats []api.Pat, branches ...api.Expr) api.Expr {
	return api.Expr{Kind: api.ExCase, Args: append([]api.Expr{of}, branches...), Pats: pats}
}

func pvar(s string) api.Pat { return api.Pat{Kind: api.PatVar, Name: s} }

func pcon(s string, args ...api.Pat) api.Pat {
	return api.Pat{Kind: api.PatCon, Name: s, Args: args}
}

func at(place int, e api.Expr) api.Expr {
	e.At = place
	return e
}

func patAt(place int, p api.Pat) api.Pat {
	p.At = place
	return p
}

// frame is an expression with gaps for others.
type frame struct {
	name string
	gaps int
	fill func(l []api.Expr) api.Expr
}

// frames is one of each kind that has parts; the patterns of a case have no names.
func frames() []frame {
	return []frame{
		{"fun", 1, func(l []api.Expr) api.Expr { return fun("v", l[0]) }},
		{"app", 2, func(l []api.Expr) api.Expr { return app(l[0], l[1]) }},
		{"let", 2, func(l []api.Expr) api.Expr { return let("v", l[0], l[1]) }},
		{"rec", 2, func(l []api.Expr) api.Expr { return rec("v", "w", l[0], l[1]) }},
		{"case", 4, func(l []api.Expr) api.Expr { return cased(l[0], []api.Pat{none, pcon("Nil"), none}, l[1:]...) }},
		{"con", 2, func(l []api.Expr) api.Expr { return con("Cons", l...) }},
		{"great con", 8, func(l []api.Expr) api.Expr { return con("Great", l...) }},
		{"prim", 2, func(l []api.Expr) api.Expr { return prim(l[0], l[1]) }},
		{"print", 1, func(l []api.Expr) api.Expr { return printed(l[0]) }},
	}
}

// great is a type with a constructor of eight fields.
func great(t *testing.T) []api.Decl {
	return read(t, "type great = Great int int int int int int int int | Small; 1").Decls
}

// faulty is expressions whose fault is at that place.
func faulty(place int) []api.Expr {
	bad := at(-9, name("nope"))
	return []api.Expr{
		at(place, name("nope")),
		at(place, con("Nope")),
		at(place, con("Nope", bad, bad)),
		at(place, con("Cons", bad)),
		at(place, con("Cons", one, one, bad)),
		at(place, con("Cons")),
		at(place, con("Small", one)),
		at(-7, cased(one, []api.Pat{patAt(place, pcon("Nope", patAt(-8, pcon("Nope"))))}, bad)),
		at(-7, cased(one, []api.Pat{patAt(place, pcon("Cons", none))}, bad)),
		at(-7, cased(one, []api.Pat{patAt(-8, pcon("Cons", pvar("v"), patAt(place, pvar("v"))))}, bad)),
		at(-7, cased(one, []api.Pat{none, patAt(place, pcon("Nil", pvar("v"), pvar("v")))}, one, bad)),
	}
}

// TestPlacesOfMain: each fault at each place of each kind, and two, also one kind within the other.
func TestPlacesOfMain(t *testing.T) {
	decls := great(t)
	check := func(e api.Expr, place int, what ...any) {
		t.Helper()
		if got := checkAll(t, api.Program{Decls: decls, Main: e}); got != (api.Fault{Code: api.ErrScope, At: place}) {
			t.Errorf("%v: %v, not at %d", what, got, place)
		}
	}
	for _, f := range frames() {
		fine := slices.Repeat([]api.Expr{one}, f.gaps)
		if got := checkAll(t, api.Program{Decls: decls, Main: f.fill(fine)}); got != (api.Fault{}) {
			t.Errorf("%s: %v", f.name, got)
		}
		for i := range f.gaps {
			for k, a := range faulty(100) {
				l := slices.Clone(fine)
				l[i] = a
				check(f.fill(l), 100, f.name, i, k)
				for j := i + 1; j < f.gaps; j++ {
					for m, b := range faulty(200) {
						l[j] = b
						check(f.fill(l), 100, f.name, i, j, k, m)
					}
					l[j] = one
				}
				for _, g := range frames() {
					for j := range g.gaps {
						outer := slices.Repeat([]api.Expr{at(300, name("nope"))}, g.gaps)
						for n := range j {
							outer[n] = one
						}
						outer[j] = f.fill(l)
						check(g.fill(outer), 100, g.name, j, f.name, i, k)
					}
				}
			}
		}
	}
}

// TestOrderOfCase: of all that a case has, the first, then branch by branch the pattern and the expression.
func TestOrderOfCase(t *testing.T) {
	for from := range 7 {
		for mask := range 1 << 7 {
			if mask&(1<<from) == 0 || mask&(1<<from-1) != 0 {
				continue
			}
			bad := func(i int) bool { return mask&(1<<i) != 0 }
			expr := func(i int) api.Expr {
				if bad(i) {
					return at(10*i, name("nope"))
				}
				return one
			}
			var pats []api.Pat
			var branches []api.Expr
			for i := 1; i < 7; i += 2 {
				p := patAt(10*i, pcon("Cons", none, none))
				if bad(i) {
					p.Name = "Nil"
				}
				pats, branches = append(pats, p), append(branches, expr(i+1))
			}
			p := api.Program{Main: at(-1, cased(expr(0), pats, branches...))}
			if got := checkAll(t, p); got != (api.Fault{Code: api.ErrScope, At: 10 * from}) {
				t.Errorf("%07b: %v", mask, got)
			}
		}
	}
}

// binder is a frame that binds x in some of its gaps.
type binder struct {
	frame
	in []bool
}

func binders() []binder {
	x := pvar("x")
	of := func(pats ...api.Pat) func([]api.Expr) api.Expr {
		return func(l []api.Expr) api.Expr { return cased(l[0], pats, l[1:]...) }
	}
	return []binder{
		{frame{"fun x", 1, func(l []api.Expr) api.Expr { return fun("x", l[0]) }}, []bool{true}},
		{frame{"fun v", 1, func(l []api.Expr) api.Expr { return fun("v", l[0]) }}, []bool{false}},
		{frame{"let x", 2, func(l []api.Expr) api.Expr { return let("x", l[0], l[1]) }}, []bool{false, true}},
		{frame{"let v", 2, func(l []api.Expr) api.Expr { return let("v", l[0], l[1]) }}, []bool{false, false}},
		{frame{"rec x v", 2, func(l []api.Expr) api.Expr { return rec("x", "v", l[0], l[1]) }}, []bool{true, true}},
		{frame{"rec v x", 2, func(l []api.Expr) api.Expr { return rec("v", "x", l[0], l[1]) }}, []bool{true, false}},
		{frame{"rec x x", 2, func(l []api.Expr) api.Expr { return rec("x", "x", l[0], l[1]) }}, []bool{true, true}},
		{frame{"rec v w", 2, func(l []api.Expr) api.Expr { return rec("v", "w", l[0], l[1]) }}, []bool{false, false}},
		{frame{"case x", 2, of(x)}, []bool{false, true}},
		{frame{"case x v", 3, of(x, pvar("v"))}, []bool{false, true, false}},
		{frame{"case v x", 3, of(pvar("v"), x)}, []bool{false, false, true}},
		{frame{"case x _ x", 4, of(x, none, x)}, []bool{false, true, false, true}},
		{frame{"case Cons x _", 3, of(pcon("Cons", x, none), none)}, []bool{false, true, false}},
		{frame{"case Cons _ (Cons v x)", 3, of(none, pcon("Cons", none, pcon("Cons", pvar("v"), x)))}, []bool{false, false, true}},
		{frame{"app", 2, func(l []api.Expr) api.Expr { return app(l[0], l[1]) }}, []bool{false, false}},
		{frame{"con", 2, func(l []api.Expr) api.Expr { return con("Cons", l...) }}, []bool{false, false}},
		{frame{"prim", 2, func(l []api.Expr) api.Expr { return prim(l[0], l[1]) }}, []bool{false, false}},
		{frame{"print", 1, func(l []api.Expr) api.Expr { return printed(l[0]) }}, []bool{false}},
	}
}

// only is the frame filled with an expression in one gap, and numbers in the others.
func (f frame) only(i int, e api.Expr) api.Expr {
	l := slices.Repeat([]api.Expr{one}, f.gaps)
	l[i] = e
	return f.fill(l)
}

// checkBound: is x, at that place of an expression, bound in it? Check and Free must tell the same.
func checkBound(t *testing.T, e api.Expr, bound bool, what ...any) {
	t.Helper()
	wantFault, wantFree := api.Fault{Code: api.ErrScope, At: 100}, []string{"x"}
	if bound {
		wantFault, wantFree = api.Fault{}, nil
	}
	if got := checkAll(t, api.Program{Main: e}); got != wantFault {
		t.Errorf("%v: %v, not %v", what, got, wantFault)
	}
	if got := Free(e); !slices.Equal(got, wantFree) {
		t.Errorf("%v: %q, not %q", what, got, wantFree)
	}
}

// TestBound: a name in each part of each kind, in each part of another, and in one of a third around them.
func TestBound(t *testing.T) {
	x := at(100, name("x"))
	for _, a := range binders() {
		for i := range a.gaps {
			inA := a.only(i, x)
			checkBound(t, inA, a.in[i], a.name, i)
			for _, b := range binders() {
				for j := range b.gaps {
					inB := b.only(j, inA)
					checkBound(t, inB, a.in[i] || b.in[j], b.name, j, a.name, i)
					for _, c := range binders() {
						for k := range c.gaps {
							checkBound(t, c.only(k, inB), a.in[i] || b.in[j] || c.in[k], c.name, k, b.name, j, a.name, i)
						}
					}
				}
			}
		}
	}
}

// TestAheadAndBehind: a name that is bound within is free ahead of that and behind; one that is bound around stays bound, though it is bound again within.
func TestAheadAndBehind(t *testing.T) {
	x, y := at(100, name("x")), name("y")
	for _, a := range binders() {
		for i := range a.gaps {
			inner := a.only(i, one)
			if a.in[i] {
				inner = a.only(i, name("x"))
			}
			for _, b := range []struct {
				e     api.Expr
				place string
			}{
				{app(inner, x), "behind"}, {app(x, inner), "ahead"}, {con("Cons", inner, x), "behind"}, {prim(x, inner), "ahead"},
				{let("v", inner, x), "behind"}, {let("v", x, inner), "ahead"}, {rec("v", "w", inner, x), "behind"},
				{cased(inner, []api.Pat{none}, x), "behind"}, {cased(one, []api.Pat{none, none}, inner, x), "behind"}, {cased(one, []api.Pat{none, none}, x, inner), "ahead"},
				{app(app(inner, inner), x), "behind"},
			} {
				checkBound(t, b.e, false, b.place, a.name, i)
				checkBound(t, fun("x", b.e), true, b.place, a.name, i)
				checkBound(t, let("x", one, b.e), true, b.place, a.name, i)
				checkBound(t, app(fun("x", b.e), x), false, b.place, a.name, i)
				checkBound(t, rec("x", "x", b.e, b.e), true, b.place, a.name, i)
				checkBound(t, cased(one, []api.Pat{pvar("x"), none}, b.e, one), true, b.place, a.name, i)
				checkBound(t, cased(one, []api.Pat{pvar("x"), none}, b.e, x), false, b.place, a.name, i)
				checkBound(t, fun("x", let("x", b.e, b.e)), true, b.place, a.name, i)
				if got, want := checkFree(t, app(y, app(b.e, y))), []string{"y", "x"}; !slices.Equal(got, want) {
					t.Errorf("%s %s %d: %q", b.place, a.name, i, got)
				}
			}
		}
	}
}

// TestAlike: the function and its parameter of one name.
func TestAlike(t *testing.T) {
	wantNone(t, "let rec x x = x x in x x")
	wantNone(t, "fun x -> let rec x x = x in x")
	wantNone(t, "let rec f f = fun f -> f in f")
	wantFault(t, "(let rec x x = x in x) @x", api.ErrScope)
	wantFault(t, "let rec x x = x in x @y", api.ErrScope)
	wantFault(t, "let rec x x = x (let rec x x = x in x) @y in x", api.ErrScope)
	wantNone(t, "let rec x x = x (let rec x x = x in x) x in x (fun x -> x) x")
}

// TestPatternNames: names twice in a pattern, at any two places of it, and in two branches.
func TestPatternNames(t *testing.T) {
	// A pattern with eight gaps, some of them deep.
	pattern := func(l []api.Pat) api.Pat {
		deep := pcon("Cons", l[1], pcon("Cons", pcon("Cons", l[2], l[3]), l[4]))
		return pcon("Cons", pcon("Cons", l[0], deep), pcon("Cons", l[5], pcon("Cons", l[6], l[7])))
	}
	for i := range 8 {
		for j := i + 1; j < 8; j++ {
			for _, s := range []string{"x", "y"} {
				l := slices.Repeat([]api.Pat{none}, 8)
				l[i], l[j] = patAt(10, pvar("x")), patAt(20, pvar(s))
				p := pattern(l)
				want := api.Fault{}
				if s == "x" {
					want = api.Fault{Code: api.ErrScope, At: 20}
				}
				for _, e := range []api.Expr{
					cased(one, []api.Pat{p}, name("x")), cased(one, []api.Pat{pvar("x"), p}, name("x"), name("x")), cased(one, []api.Pat{p, pvar("x")}, name(s), name("x")), fun("x", cased(one, []api.Pat{p}, name("x"))),
				} {
					if got := checkAll(t, api.Program{Main: e}); got != want {
						t.Errorf("%d, %d, %s: %v", i, j, s, got)
					}
				}
				// A third one behind, and a fault ahead.
				if j < 7 && s == "x" {
					l[7] = patAt(30, pvar("x"))
					if got := checkAll(t, api.Program{Main: cased(one, []api.Pat{pattern(l)}, one)}); got != want {
						t.Errorf("%d, %d, 7: %v", i, j, got)
					}
				}
			}
		}
	}
	wantNone(t, "case 1 of x -> x | x -> x | Cons x y -> x y | Cons y x -> y x end")
	wantNone(t, "fun x -> case x of Cons x _ -> case x of Cons x _ -> x end | _ -> x end")
}

// TestConstructors: each constructor with each number of arguments, in expressions and in patterns.
func TestConstructors(t *testing.T) {
	p := read(t, "type great = Great int int int int int int int int | Small int | None; type more 'a = More 'a (more 'a) | Less; 1")
	fields := map[string]int{"Unit": 0, "False": 0, "True": 0, "Nil": 0, "Cons": 2, "Great": 8, "Small": 1, "None": 0, "More": 2, "Less": 0, "Nope": -1, "Consx": -1, "Con": -1}
	for s, n := range fields {
		for args := range 9 {
			want := api.Fault{Code: api.ErrScope, At: 5}
			if args == n {
				want = api.Fault{}
			}
			p.Main = at(5, con(s, slices.Repeat([]api.Expr{one}, args)...))
			if got := checkAll(t, p); got != want {
				t.Errorf("%s of %d: %v", s, args, got)
			}
			p.Main = cased(one, []api.Pat{none, pcon("Small", patAt(5, pcon(s, slices.Repeat([]api.Pat{none}, args)...)))}, one, one)
			if got := checkAll(t, p); got != want {
				t.Errorf("pattern %s of %d: %v", s, args, got)
			}
			if n >= 0 {
				if _, _, ok := Find(All(p), s); !ok {
					t.Error(s)
				}
			}
		}
	}
}

// TestPlaces: places are told as they stand in the tree, whatever they are.
func TestPlaces(t *testing.T) {
	for _, place := range []int{0, 1, -1, 8192, 1 << 40, -1 << 63, 1<<63 - 1} {
		for i, e := range faulty(place) {
			p := api.Program{Decls: great(t), Main: e}
			if got := checkAll(t, p); got != (api.Fault{Code: api.ErrScope, At: place}) {
				t.Errorf("%d: %v", i, got)
			}
			p.Decls[0].Cons[1].Name, p.Decls[0].At = "Great", place
			if got := checkAll(t, p); got != (api.Fault{Code: api.ErrDecl, At: place}) {
				t.Errorf("%d: %v", i, got)
			}
		}
	}
}

// TestRefused: what did not come of parse is ErrArg at 0, whatever else is wrong.
func TestRefused(t *testing.T) {
	bad := oddPrograms()
	for _, e := range oddExprs() {
		bad = append(bad, api.Program{Main: at(7, e)}, api.Program{Main: at(7, fun("x", e))}, api.Program{Decls: great(t), Main: at(7, app(name("nope"), e))})
	}
	for _, p := range bad {
		if got := checkAll(t, p); got != (api.Fault{Code: api.ErrArg}) {
			t.Errorf("%.300s: %v", fmt.Sprint(p), got)
		}
	}
}
