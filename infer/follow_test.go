package infer

import (
	"fmt"
	"math/rand"
	"slices"
	"testing"

	"athanor/api"
	"athanor/scope"
)

// renamer gives what is bound names of its own, each another one, and all things other places.
type renamer struct {
	made  int
	name  func(i int) string
	place func(at int) int
}

// renames is the names around, and what they are called instead.
type renames struct {
	was, is string
	more    *renames
}

func (n *renames) find(s string) string {
	for ; n != nil; n = n.more {
		if n.was == s {
			return n.is
		}
	}
	return s
}

func (r *renamer) bind(s string, n *renames) (string, *renames) {
	r.made++
	is := r.name(r.made)
	return is, &renames{s, is, n}
}

func (r *renamer) expr(e api.Expr, n *renames) api.Expr {
	out := api.Expr{Kind: e.Kind, At: r.place(e.At), Name: e.Name, Param: e.Param, N: e.N}
	part := func(i int, n *renames) { out.Args = append(out.Args, r.expr(e.Args[i], n)) }
	switch e.Kind {
	case api.ExVar:
		out.Name = n.find(e.Name)
	case api.ExFun:
		out.Name, n = r.bind(e.Name, n)
		part(0, n)
	case api.ExLet:
		part(0, n)
		out.Name, n = r.bind(e.Name, n)
		part(1, n)
	case api.ExRec:
		var within *renames
		out.Name, n = r.bind(e.Name, n)
		out.Param, within = r.bind(e.Param, n)
		part(0, within)
		part(1, n)
	case api.ExCase:
		part(0, n)
		for i, p := range e.Pats {
			within := n
			out.Pats = append(out.Pats, r.pat(p, &within))
			part(i+1, within)
		}
	default:
		for i := range e.Args {
			part(i, n)
		}
	}
	return out
}

func (r *renamer) pat(p api.Pat, n **renames) api.Pat {
	out := api.Pat{Kind: p.Kind, At: r.place(p.At), Name: p.Name, N: p.N}
	if p.Kind == api.PatVar {
		out.Name, *n = r.bind(p.Name, *n)
	}
	for _, x := range p.Args {
		out.Args = append(out.Args, r.pat(x, n))
	}
	return out
}

// checkRenamed asks for the program with other names, and with all things at other places.
func checkRenamed(t *testing.T, r *rand.Rand, p api.Program) {
	t.Helper()
	if scope.Check(p) != (api.Fault{}) {
		return
	}
	want, wantFault := Infer(p)
	wantText, wantAgain := Text(p)
	factor, ahead := []int{1, -1, 7, -1000003, 0}[r.Intn(5)], r.Intn(1000)-500
	place := func(at int) int { return at*factor + ahead }
	if wantFault.Code != api.OK {
		wantFault.At = place(wantFault.At)
		wantAgain = wantFault
	}
	for _, name := range []func(i int) string{
		func(i int) string { return fmt.Sprint("v", i) },
		func(i int) string { return fmt.Sprint("zz", 1000000-i) },
	} {
		x := &renamer{name: name, place: place}
		q := api.Program{Decls: p.Decls, Main: x.expr(p.Main, nil)}
		got, fault := Infer(q)
		if fault != wantFault || !alike(got, want) {
			t.Fatalf("%s\nis %s, %v, not %s, %v as %s", brief(q), text(got, 2), fault, text(want, 2), wantFault, brief(p))
		}
		if s, again := Text(q); s != wantText || again != wantAgain {
			t.Fatalf("%s\nis %s, %v, not %s, %v as %s", brief(q), s, again, wantText, wantAgain, brief(p))
		}
	}
}

// texts is the programs of the other tests, too large ones and those of many kinds among them.
func texts() []string {
	l := samples()
	for _, in := range inners() {
		for _, o := range outers()[:12] {
			if x, ok := o.filled(in); ok {
				l = append(l, "let id = fun x -> x in fun l -> case Cons 1 l of _ -> case 1 of n -> "+x.s+" end end")
			}
		}
	}
	for _, of := range []string{"1", "bot 1"} {
		for _, n := range []int{1021, 1022, 1023, 1024} {
			for _, s := range []string{"fun l -> x", "fun l -> case D x of _ -> 1 end", "let y = D x in 1 2", "fun l -> case x of x -> x end", "fun l -> (fun z -> 1) x", "fun l -> let y = Cons x Nil in Cons y (Cons x Nil)"} {
				l = append(l, sizedDecls+sized("x", n, 1, of)+s)
			}
		}
	}
	for _, n := range []int{3, 9, 10, 60} {
		l = append(l, doubledAround(n, fmt.Sprintf("let y = x%d in Cons y (Cons x0 Nil)", n)))
	}
	return l
}

// TestRenamed: the type hangs neither on the names of what is bound, nor on places.
func TestRenamed(t *testing.T) {
	t.Parallel()
	r := rand.New(rand.NewSource(162))
	for _, s := range texts() {
		checkRenamed(t, r, mustRead(s))
	}
	for i := range 1000 {
		g := &grower{r: r, room: 1 + r.Intn(100), odd: []int{1 << 30, 200, 30}[i%3]}
		checkRenamed(t, r, g.grow())
	}
}

// unusedLet is a let that is to be put ahead of one of a program's expressions.
type unusedLet struct {
	r      *rand.Rand
	left   int // how many expressions are still ahead of it
	done   bool
	firsts []api.Expr
}

// expr puts the let there; around is the names that are bound.
func (u *unusedLet) expr(e api.Expr, around []string) api.Expr {
	if u.left == 0 {
		u.left, u.done = -1, true
		return u.ahead(e, around)
	}
	u.left--
	out := e
	out.Args = slices.Clone(e.Args)
	for i, x := range e.Args {
		within := slices.Clone(around)
		switch {
		case e.Kind == api.ExFun, e.Kind == api.ExLet && i == 1, e.Kind == api.ExRec:
			within = append(within, e.Name)
		case e.Kind == api.ExCase && i > 0:
			within = append(within, patNames(e.Pats[i-1])...)
		}
		if e.Kind == api.ExRec && i == 0 {
			within = append(within, e.Param)
		}
		if !u.done {
			out.Args[i] = u.expr(x, within)
		}
	}
	return out
}

func patNames(p api.Pat) []string {
	var l []string
	if p.Kind == api.PatVar {
		l = append(l, p.Name)
	}
	for _, x := range p.Args {
		l = append(l, patNames(x)...)
	}
	return l
}

// ahead is the expression behind a let whose Name does not stand in it; the Name may well be bound around.
func (u *unusedLet) ahead(e api.Expr, around []string) api.Expr {
	first := u.firsts[u.r.Intn(len(u.firsts))]
	if len(around) > 0 && u.r.Intn(3) == 0 {
		// What is only a name has a type already.
		first = name(around[u.r.Intn(len(around))])
	}
	free := scope.Free(e)
	l := append(slices.DeleteFunc(slices.Clone(around), func(s string) bool { return slices.Contains(free, s) }), "unused")
	x := let(l[u.r.Intn(len(l))], at(-5, first), e)
	if first.Kind != api.ExVar && u.r.Intn(4) == 0 {
		x = rec(x.Name, "z", at(-5, first), e)
	}
	return at(e.At, x)
}

func countExprs(e api.Expr) int {
	n := 1
	for _, x := range e.Args {
		n += countExprs(x)
	}
	return n
}

// checkUnused puts lets ahead of some of the program's expressions.
func checkUnused(t *testing.T, r *rand.Rand, p api.Program, firsts []api.Expr) {
	t.Helper()
	want, wantFault := Infer(p)
	for range 3 {
		u := &unusedLet{r: r, left: r.Intn(countExprs(p.Main)), firsts: firsts}
		q := api.Program{Decls: p.Decls, Main: u.expr(p.Main, nil)}
		got, fault := Infer(q)
		if scope.Check(q).Code == api.ErrArg {
			// It has become too deep.
			continue
		}
		if fault != wantFault || !alike(got, want) {
			t.Fatalf("%s\nis %s, %v, not %s, %v as %s", brief(q), text(got, 2), fault, text(want, 2), wantFault, brief(p))
		}
	}
}

// typed is expressions that have a type, whatever is bound around.
func typed() []api.Expr {
	var l []api.Expr
	for _, s := range []string{"1", "Nil", "fun x -> x", "fun x -> fun y -> Cons x y", "let rec f x = f x in f", "let rec f x = f x in f 1", "case Cons 1 Nil of Cons x _ -> x | Nil -> 2 end", "print 1; 2", "let x = fun x -> x in x x 1", "1 == 2", "fun x -> let y = x in Cons x (Cons y Nil)", "fun x -> case x of Cons y _ -> y 1 | Nil -> 1 end"} {
		l = append(l, mustRead(s).Main)
	}
	return l
}

// TestUnused: a let whose Name does not stand in its second, and whose first has a type, changes no type.
func TestUnused(t *testing.T) {
	t.Parallel()
	r := rand.New(rand.NewSource(163))
	for _, s := range texts() {
		checkUnused(t, r, mustRead(s), typed())
	}
	for i := range 1000 {
		g := &grower{r: r, room: 1 + r.Intn(100), odd: []int{1 << 30, 200, 30}[i%3]}
		p := g.grow()
		// One that is grown may have a type, too.
		g.room, g.bound = 10, nil
		firsts := typed()
		if e := g.expr(g.typ(2)); r.Intn(2) == 0 {
			if _, fault := Infer(api.Program{Decls: p.Decls, Main: let("v", e, fun("l", one))}); fault == (api.Fault{}) {
				firsts = []api.Expr{e}
			}
		}
		checkUnused(t, r, p, firsts)
	}
	table(t,
		"let x = 1 in fun l -> l :: list int -> list int",
		"let l = 1 in fun l -> l :: list int -> list int",
		"fun l -> let x = l in l :: list int -> list int",
		"fun l -> let x = fun l -> l 1 in l :: list int -> list int",
		"let x = @1 2 in fun l -> l :: !unify",
		"fun l -> let x = fun x -> @x x in l :: !occurs",
		"let rec f x = @f in fun l -> l :: !occurs",
		// A first that is unified with what is around changes what that is.
		"@fun l -> let x = l + 1 in l :: !main",
		"fun l -> case Nil of x -> let y = Cons 1 x in x end :: list int -> list int",
	)
}
