package scope

import (
	"fmt"
	"slices"
	"strings"
	"testing"

	"athanor/api"
)

// nested is one thing around the other, n in all, around the innermost.
func nested[T any](n int, inner T, around func(int, T) T) T {
	for i := range n - 1 {
		inner = around(i, inner)
	}
	return inner
}

func TestDeep(t *testing.T) {
	x, free := at(5, name("x")), at(5, name("free"))
	for _, n := range []int{255, 256, 257, 1 << 16} {
		for i, around := range []func(int, api.Expr) api.Expr{
			func(_ int, e api.Expr) api.Expr { return fun("x", e) },
			func(_ int, e api.Expr) api.Expr { return let("x", one, e) },
			func(_ int, e api.Expr) api.Expr { return rec("f", "x", e, one) },
			func(_ int, e api.Expr) api.Expr { return rec("x", "x", one, e) },
			func(_ int, e api.Expr) api.Expr { return cased(one, []api.Pat{pvar("x")}, e) },
			func(_ int, e api.Expr) api.Expr { return cased(e, []api.Pat{pvar("x")}, name("x")) },
			func(_ int, e api.Expr) api.Expr { return let("x", e, name("x")) },
			func(_ int, e api.Expr) api.Expr { return con("Cons", one, e) },
			func(_ int, e api.Expr) api.Expr { return printed(e) },
			func(k int, e api.Expr) api.Expr { return fun(fmt.Sprint("x", k), e) },
		} {
			for _, inner := range []api.Expr{x, free} {
				bound := i < 5 && inner.Name == "x"
				e := nested(n, inner, around)
				wantFault, wantFree := api.Fault{Code: api.ErrScope, At: 5}, []string{inner.Name}
				if bound {
					wantFault, wantFree = api.Fault{}, nil
				}
				if n > api.MaxDepth {
					wantFault = api.Fault{Code: api.ErrArg}
				}
				if got := Check(api.Program{Main: e}); got != wantFault {
					t.Errorf("%d, %d deep: %v, not %v", i, n, got, wantFault)
				}
				if got := Free(e); !slices.Equal(got, wantFree) {
					t.Errorf("%d, %d deep: %q, not %q", i, n, got, wantFree)
				}
			}
		}
		checkDeepPattern(t, n)
		checkDeepType(t, n)
	}
}

func checkDeepPattern(t *testing.T, n int) {
	t.Helper()
	p := nested(n, patAt(5, pvar("x")), func(_ int, p api.Pat) api.Pat { return pcon("Cons", none, p) })
	twice := nested(n, patAt(5, pvar("x")), func(i int, p api.Pat) api.Pat {
		if i == n-2 {
			return pcon("Cons", pvar("x"), p)
		}
		return pcon("Cons", none, p)
	})
	for _, c := range []struct {
		p    api.Pat
		want api.Fault
	}{{p, api.Fault{}}, {twice, api.Fault{Code: api.ErrScope, At: 5}}} {
		if n >= api.MaxDepth {
			c.want = api.Fault{Code: api.ErrArg}
		}
		if got := Check(api.Program{Main: cased(one, []api.Pat{c.p}, name("x"))}); got != c.want {
			t.Errorf("patterns, %d deep: %v, not %v", n, got, c.want)
		}
		if got := Free(cased(name("y"), []api.Pat{c.p, none}, name("x"), name("x"))); !slices.Equal(got, []string{"y", "x"}) {
			t.Errorf("patterns, %d deep: %q", n, got)
		}
	}
}

func checkDeepType(t *testing.T, n int) {
	t.Helper()
	for _, inner := range []string{"unit", "nope"} {
		x := nested(n, api.Type{Kind: api.TyCon, Name: inner}, func(i int, x api.Type) api.Type {
			if i%2 == 0 {
				return api.Type{Kind: api.TyFun, Args: []api.Type{x, {Kind: api.TyInt}}}
			}
			return api.Type{Kind: api.TyCon, Name: "list", Args: []api.Type{x}}
		})
		p := api.Program{Decls: []api.Decl{{Name: "t", Cons: []api.Con{{Name: "A", Fields: []api.Type{{Kind: api.TyInt}, x}}}, At: 9}}, Main: one}
		want := api.Fault{}
		if inner == "nope" {
			want = api.Fault{Code: api.ErrDecl, At: 9}
		}
		if n > api.MaxDepth {
			want = api.Fault{Code: api.ErrArg}
		}
		if got := Check(p); got != want {
			t.Errorf("types, %d deep: %v, not %v", n, got, want)
		}
		deep := 0
		for y := All(p)[3].Cons[0].Fields[1]; ; y = y.Args[0] {
			if deep++; len(y.Args) == 0 {
				if y.Name != inner {
					t.Errorf("types, %d deep: %v", n, y)
				}
				break
			}
		}
		if deep != n {
			t.Errorf("types are %d deep, not %d", deep, n)
		}
	}
}

// TestFull: programs as large as may be.
func TestFull(t *testing.T) {
	var p api.Program
	for i := range 32 {
		d := api.Decl{Name: fmt.Sprint("t", i), Params: strings.Fields("a b c d"), At: i}
		args := []api.Type{{Kind: api.TyVar, Name: "d"}, {Kind: api.TyVar, Name: "c"}, {Kind: api.TyVar, Name: "b"}, {Kind: api.TyVar, Name: "a"}}
		for j := range 32 {
			field := api.Type{Kind: api.TyCon, Name: fmt.Sprint("t", (i+j)%32), Args: args}
			d.Cons = append(d.Cons, api.Con{Name: fmt.Sprintf("C%dx%d", i, j), Fields: slices.Repeat([]api.Type{field}, 8)})
		}
		p.Decls = append(p.Decls, d)
	}
	p.Main = one
	if got := checkAll(t, p); got != (api.Fault{}) {
		t.Error(got)
	}
	last := copyOf(p)
	last.Decls[31].Cons[31].Fields[7].Args[3].Name = "e"
	if got := checkAll(t, last); got != (api.Fault{Code: api.ErrDecl, At: 31}) {
		t.Error(got)
	}
	last.Decls[31].Cons[31].Name = "C0x0"
	last.Decls[0].Cons[0].Fields[0].Name = "nope"
	if got := checkAll(t, last); got != (api.Fault{Code: api.ErrDecl, At: 31}) {
		t.Error(got)
	}
	last.Decls[31].Cons[31].Name = "C"
	if got := checkAll(t, last); got != (api.Fault{Code: api.ErrDecl, At: 0}) {
		t.Error(got)
	}
	for _, i := range []int{0, 1, 30, 31} {
		for _, j := range []int{0, 1, 30, 31} {
			p.Main = at(7, con(p.Decls[i].Cons[j].Name, slices.Repeat([]api.Expr{one}, 8)...))
			if got := Check(p); got != (api.Fault{}) {
				t.Error(i, j, got)
			}
		}
	}
	// 2 + 682 * 3 expressions and patterns are MaxExprs; with one more it is no program.
	wide := cased(one, slices.Repeat([]api.Pat{pvar("x")}, 682), slices.Repeat([]api.Expr{printed(name("x"))}, 682)...)
	p.Main = wide
	if got := checkAll(t, p); got != (api.Fault{}) {
		t.Error(got)
	}
	wide.Args[682] = printed(at(8, name("y")))
	p.Main = wide
	if got := checkAll(t, p); got != (api.Fault{Code: api.ErrScope, At: 8}) {
		t.Error(got)
	}
	p.Main = fun("y", fun("y", wide))
	if got := checkAll(t, p); got != (api.Fault{Code: api.ErrArg}) {
		t.Error(got)
	}
}

// TestLarge: far more than a program may have.
func TestLarge(t *testing.T) {
	const n = 1 << 18
	var many []api.Expr
	var names []string
	var pats []api.Pat
	for i := range n {
		s := fmt.Sprint("x", i)
		many, names, pats = append(many, name(s)), append(names, s), append(pats, pvar(s))
	}
	all := api.Expr{Kind: api.ExCon, Name: "A", Args: many}
	check := func(e api.Expr, want []string) {
		t.Helper()
		if got := Free(e); !slices.Equal(got, want) {
			t.Errorf("%d names, not %d", len(got), len(want))
		}
		if got := Check(api.Program{Main: e}); got != (api.Fault{Code: api.ErrArg}) {
			t.Error(got)
		}
	}
	check(all, names)
	check(app(all, all), names)
	check(cased(one, []api.Pat{pcon("A", pats...)}, all), nil)
	check(cased(all, []api.Pat{pcon("A", pats...)}, all), names)
	check(cased(one, []api.Pat{pcon("A", pats[1:]...)}, all), names[:1])
	check(cased(one, pats, many...), nil)
	check(cased(one, pats[:n-1], many...), names[n-1:])
	check(cased(one, pats[1:], many...), names)
	check(fun("x0", all), names[1:])
	check(app(fun("x0", all), all), append(slices.Clone(names[1:]), "x0"))
	deep := nested(1<<16, all, func(i int, e api.Expr) api.Expr { return fun(names[i], e) })
	check(deep, names[1<<16-1:])
	tree := nested(13, name("x"), func(i int, e api.Expr) api.Expr { return app(e, let("x", e, e)) })
	check(tree, []string{"x"})

	field := api.Type{Kind: api.TyInt}
	wide := nested(16, field, func(_ int, x api.Type) api.Type { return api.Type{Kind: api.TyFun, Args: []api.Type{x, x}} })
	p := api.Program{Decls: []api.Decl{{Name: "t", Cons: []api.Con{{Name: "A", Fields: []api.Type{wide}}}, At: 4}}, Main: one}
	if got := checkAll(t, p); got != (api.Fault{}) {
		t.Error(got)
	}
	p.Decls = slices.Repeat(p.Decls[:1:1], 4)
	if got := checkAll(t, p); got != (api.Fault{Code: api.ErrDecl, At: 4}) {
		t.Error(got)
	}
	p = api.Program{Decls: make([]api.Decl, n), Main: one}
	if got := All(p); len(got) != n+3 || Check(p) != (api.Fault{Code: api.ErrArg}) {
		t.Errorf("%d Decls", len(got))
	}
	long := strings.Repeat("a", 1<<24)
	if got := Free(app(name(long), name(long))); len(got) != 1 || got[0] != long {
		t.Errorf("%d names", len(got))
	}
}
