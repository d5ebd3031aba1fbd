package show

import (
	"math/rand"
	"strings"
	"testing"

	"athanor/api"
)

// grower grows trees by chance, with now and then something wrong.
type grower struct {
	r    *rand.Rand
	room int
	odd  int  // one of so many things is wrong
	long bool // are words as long as may be?
}

func (g *grower) wrong() bool { return g.r.Intn(g.odd) == 0 }

func (g *grower) name(l ...string) string {
	if g.wrong() {
		l = []string{"", "x", "A", "in", "int", "1", "_", "+", "x y", "x1 ", "'a"}
	}
	s := l[g.r.Intn(len(l))]
	if g.long && !strings.Contains("+-*/%<== in ", s) {
		s += strings.Repeat("_", api.MaxIdent-len(s))
	}
	return s
}

func (g *grower) number() int {
	l := []int{0, 1, -1, 7, -10, 1<<30 - 1, -1 << 30}
	if g.wrong() {
		l = []int{1 << 30, -1<<30 - 1, 1 << 40, -1 << 63}
	}
	return l[g.r.Intn(len(l))]
}

// count is a number of parts: n, or near it.
func (g *grower) count(n int) int {
	if g.wrong() {
		n += g.r.Intn(3) - 1
	}
	return max(n, 0)
}

func (g *grower) kind(kinds int) int {
	if g.wrong() {
		return g.r.Intn(2*kinds) - kinds/2
	}
	return 1 + g.r.Intn(kinds)
}

func (g *grower) expr() api.Expr {
	g.room--
	e := api.Expr{Kind: g.kind(10), At: g.r.Intn(9)}
	if g.room <= 0 {
		e.Kind = []int{api.ExVar, api.ExInt, api.ExCon}[g.r.Intn(3)]
	}
	args := 0
	switch e.Kind {
	case api.ExVar:
		e.Name = g.name("x", "y", "int")
	case api.ExInt:
		e.N = g.number()
	case api.ExFun:
		e.Name, args = g.name("x", "y"), 1
	case api.ExApp:
		args = 2
	case api.ExLet:
		e.Name, args = g.name("x", "y"), 2
	case api.ExRec:
		e.Name, e.Param, args = g.name("f"), g.name("x", "f"), 2
	case api.ExCase:
		pats := g.count(1 + g.r.Intn(3))
		for range pats {
			e.Pats = append(e.Pats, g.pat())
		}
		args = pats + 1
	case api.ExCon:
		e.Name, args = g.name("A", "B"), g.r.Intn(min(9, max(1, g.room)))
	case api.ExPrim:
		e.Name, args = g.name("+", "-", "*", "/", "%", "<", "=="), 2
	case api.ExPrint:
		args = 1
	}
	for range g.count(args) {
		e.Args = append(e.Args, g.expr())
	}
	return e
}

func (g *grower) pat() api.Pat {
	g.room--
	p := api.Pat{Kind: g.kind(4), At: g.r.Intn(9)}
	args := 0
	switch p.Kind {
	case api.PatVar:
		p.Name = g.name("x", "y")
	case api.PatInt:
		p.N = g.number()
	case api.PatCon:
		p.Name, args = g.name("A", "B"), g.r.Intn(min(4, max(1, g.room)))
	}
	for range g.count(args) {
		p.Args = append(p.Args, g.pat())
	}
	return p
}

func (g *grower) typ() api.Type {
	g.room--
	x := api.Type{Kind: g.kind(4)}
	if g.room <= 0 {
		x.Kind = api.TyInt
	}
	args := 0
	switch x.Kind {
	case api.TyVar:
		x.Name = g.name("a", "b", "int", "fun")
	case api.TyFun:
		args = 2
	case api.TyCon:
		x.Name, args = g.name("t", "u"), g.r.Intn(4)
	}
	if g.wrong() {
		x.N = g.number()
	}
	for range g.count(args) {
		x.Args = append(x.Args, g.typ())
	}
	return x
}

func (g *grower) program() api.Program {
	var p api.Program
	for range g.r.Intn(3) {
		d := api.Decl{Name: g.name("t", "u", "int")}
		for range g.r.Intn(3) {
			d.Params = append(d.Params, g.name("a", "b", "fun"))
		}
		for range g.count(1 + g.r.Intn(3)) {
			c := api.Con{Name: g.name("A", "B")}
			for range g.r.Intn(3) {
				c.Fields = append(c.Fields, g.typ())
			}
			d.Cons = append(d.Cons, c)
		}
		p.Decls = append(p.Decls, d)
	}
	p.Main = g.expr()
	return p
}

// many is an expression with many others within.
func (g *grower) many() api.Expr {
	room := g.room
	all := make([]api.Expr, 64)
	for i := range all {
		g.room = 1 + room/64
		all[i] = g.expr()
	}
	out := con("A")
	for i := range 8 {
		out.Args = append(out.Args, con("B", all[8*i:8*i+8]...))
	}
	return out
}

// checkGrown holds all three functions against the second writing, on what chance grows.
func checkGrown(t *testing.T, g *grower) [3]api.Errno {
	room := g.room
	p := g.program()
	g.room = room
	e := g.expr()
	if g.long {
		g.room = room
		p.Main = g.many()
	}
	g.room = room
	x := g.typ()
	return [3]api.Errno{checkProgram(t, p), checkExpr(t, e), checkType(t, x)}
}

func TestGrown(t *testing.T) {
	r := rand.New(rand.NewSource(13))
	var counts [3]map[api.Errno]int
	for i := range counts {
		counts[i] = map[api.Errno]int{}
	}
	for i := range 30000 {
		g := &grower{r: r, room: 1 + r.Intn(30), odd: []int{1 << 30, 300, 30}[i%3]}
		if i%100 == 0 {
			g.room, g.long = r.Intn(1500), true
		}
		for k, err := range checkGrown(t, g) {
			counts[k][err]++
		}
	}
	for k, n := range counts {
		if n[api.OK] < 10000 || n[api.ErrArg] < 1000 || k == 0 && n[api.ErrLong] == 0 {
			t.Errorf("%d: %v", k, n)
		}
	}
}

func FuzzGrown(f *testing.F) {
	for i := range 20 {
		f.Add(int64(i), 10*i, 1+i*i)
	}
	f.Fuzz(func(t *testing.T, seed int64, room, odd int) {
		checkGrown(t, &grower{rand.New(rand.NewSource(seed)), min(room, 3000), max(1, odd), seed%7 == 0})
	})
}
