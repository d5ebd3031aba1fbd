package useful

import (
	"fmt"
	"math/rand"
	"testing"

	"athanor/api"
	"athanor/parse"
)

// wild grows patterns by chance, of no type, with now and then something wrong.
type wild struct {
	r   *rand.Rand
	l   []api.Decl
	odd int // one of so many things is wrong
}

func (g wild) wrong() bool { return g.odd > 0 && g.r.Intn(g.odd) == 0 }

func (g wild) pat(deep int) api.Pat {
	if g.wrong() {
		return api.Pat{Kind: g.r.Intn(8) - 2, Name: g.con().Name, Args: nones(g.r.Intn(3))}
	}
	k := g.r.Intn(8)
	if deep == 0 || len(g.l) == 0 {
		k = g.r.Intn(4)
	}
	switch {
	case k < 2:
		return none
	case k == 2:
		return pvar("x")
	case k == 3:
		return pint(g.r.Intn(3))
	}
	c := g.con()
	p := pcon(c.Name)
	for range c.Fields {
		p.Args = append(p.Args, g.pat(deep-1))
	}
	return p
}

// con is a constructor, of the same type mostly.
func (g wild) con() api.Con {
	if len(g.l) == 0 {
		return api.Con{}
	}
	d := g.l[len(g.l)-1]
	if g.r.Intn(4) == 0 {
		d = g.l[g.r.Intn(len(g.l))]
	}
	if len(d.Cons) == 0 {
		return api.Con{}
	}
	return d.Cons[g.r.Intn(len(d.Cons))]
}

func (g wild) row(n int) []api.Pat {
	var out []api.Pat
	for range n {
		out = append(out, g.pat(3))
	}
	return out
}

func (g wild) rows(n, width int) [][]api.Pat {
	var out [][]api.Pat
	for range n {
		if g.wrong() {
			width = max(0, width+g.r.Intn(3)-1)
		}
		out = append(out, g.row(width))
	}
	return out
}

// list is declared types, some of them with names that others have.
func (g wild) list() []api.Decl {
	if g.r.Intn(3) > 0 {
		return types()[:3+g.r.Intn(7)]
	}
	var out []api.Decl
	for range g.r.Intn(4) {
		var d api.Decl
		for range g.r.Intn(4) {
			d.Cons = append(d.Cons, api.Con{Name: string(rune('A' + g.r.Intn(5))), Fields: make([]api.Type, g.r.Intn(3))})
		}
		out = append(out, d)
	}
	return out
}

func checkGrown(t *testing.T, seed int64) {
	t.Helper()
	g := wild{r: rand.New(rand.NewSource(seed))}
	g.l = g.list()
	if seed%3 == 0 {
		g.odd = 20
	}
	width := g.r.Intn(4)
	checkUseful(t, g.l, g.rows(g.r.Intn(7), width), g.row(width))
	column := g.row(g.r.Intn(9))
	checkColumn(t, g.l, column)
	for _, p := range column {
		for range 4 {
			checkMeets(t, g.l, p, g.near(p, 4))
		}
	}
}

// near is a value that a pattern meets, or nearly.
func (g wild) near(p api.Pat, deep int) api.Val {
	if deep == 0 || g.r.Intn(9) == 0 {
		return []api.Val{vint(g.r.Intn(3)), vcon(g.r.Intn(4)), vcon(g.r.Intn(3), vint(1), vcon(0)), {Int: true, Args: []api.Val{vint(0)}}}[g.r.Intn(4)]
	}
	switch p.Kind {
	case api.PatInt:
		return vint(p.N)
	case api.PatCon:
		_, _, tag, _ := plainCon(g.l, p.Name)
		v := vcon(tag)
		for _, x := range p.Args {
			v.Args = append(v.Args, g.near(x, deep-1))
		}
		return v
	}
	return vcon(g.r.Intn(3), vint(g.r.Intn(2)))
}

// cases grows expressions with many cases.
type cases struct {
	typed
	room, place int
}

func (g *cases) next() int {
	g.place += 1 + g.r.Intn(3)
	return g.place
}

func (g *cases) expr() api.Expr {
	g.room--
	e := api.Expr{At: g.next(), Kind: api.ExInt, N: 1}
	if g.room <= 0 {
		return e
	}
	switch e.Kind = 1 + g.r.Intn(10); e.Kind {
	case api.ExVar, api.ExInt:
		return g.aCase(e.At)
	case api.ExFun:
		return api.Expr{Kind: api.ExFun, Name: "x", At: e.At, Args: []api.Expr{g.expr()}}
	case api.ExLet:
		return api.Expr{Kind: api.ExLet, Name: "x", At: e.At, Args: []api.Expr{g.expr(), g.expr()}}
	case api.ExRec:
		return api.Expr{Kind: api.ExRec, Name: "f", Param: "x", At: e.At, Args: []api.Expr{g.expr(), g.expr()}}
	case api.ExCon:
		return api.Expr{Kind: api.ExCon, Name: "Cons", At: e.At, Args: []api.Expr{g.expr(), g.expr()}}
	case api.ExPrim:
		return api.Expr{Kind: api.ExPrim, Name: "<", At: e.At, Args: []api.Expr{g.expr(), g.expr()}}
	case api.ExPrint:
		return api.Expr{Kind: api.ExPrint, At: e.At, Args: []api.Expr{g.expr()}}
	case api.ExApp:
		return api.Expr{Kind: api.ExApp, At: e.At, Args: []api.Expr{g.expr(), g.expr()}}
	}
	return g.aCase(e.At)
}

// aCase is a case; most meet every value.
func (g *cases) aCase(at int) api.Expr {
	e := api.Expr{Kind: api.ExCase, At: at, Args: []api.Expr{g.expr()}}
	x := typeOf(shapes()[g.r.Intn(14)].types[0])
	for range 1 + g.r.Intn(6) {
		e.Pats, e.Args = append(e.Pats, g.pat(x, 2)), append(e.Args, g.expr())
	}
	if g.r.Intn(10) > 0 {
		e.Pats, e.Args = append(e.Pats, none), append(e.Args, g.expr())
	}
	// A name stands just once in a pattern.
	for i := range e.Pats {
		onlyAny(&e.Pats[i])
	}
	return e
}

func onlyAny(p *api.Pat) {
	if p.Kind == api.PatVar {
		*p = none
	}
	for i := range p.Args {
		onlyAny(&p.Args[i])
	}
}

func checkGrownProgram(t *testing.T, seed int64) api.Fault {
	t.Helper()
	p := mustRead(typesText + "1")
	g := &cases{typed: typed{rand.New(rand.NewSource(seed)), types()}, room: 5 + int(seed&31)}
	p.Main = g.expr()
	return checkCheck(t, p)
}

func TestGrown(t *testing.T) {
	t.Parallel()
	for seed := range 6000 {
		checkGrown(t, int64(seed))
	}
}

func TestGrownPrograms(t *testing.T) {
	t.Parallel()
	told := map[api.Errno]int{}
	for seed := range 600 {
		told[checkGrownProgram(t, int64(seed)).Code]++
	}
	if told[api.OK] < 60 || told[api.ErrMatch] < 60 || len(told) != 2 {
		t.Error(fmt.Sprint(told))
	}
}

func FuzzGrown(f *testing.F) {
	f.Add(int64(1))
	f.Fuzz(func(t *testing.T, seed int64) {
		checkGrown(t, seed)
		checkGrownProgram(t, seed)
	})
}

func FuzzTexts(f *testing.F) {
	f.Add("fun l -> case l of Nil -> 1 | Cons _ _ -> 2 end")
	f.Add("case 1 of 1 -> 1 end")
	f.Add("type t = A | B t; fun l -> case l of A -> 1 | B A -> 2 | B (B _) -> 3 end")
	f.Fuzz(func(t *testing.T, s string) {
		p, _, _ := parse.Parse(s)
		checkCheck(t, p)
	})
}
