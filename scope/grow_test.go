package scope

import (
	"fmt"
	"math/rand"
	"slices"
	"testing"

	"athanor/api"
	"athanor/parse"
)

// grower grows programs by chance, with now and then something wrong.
type grower struct {
	r     *rand.Rand
	room  int
	odd   int // one of so many things is wrong
	bound []string
	decls []api.Decl
	place int
}

func (g *grower) wrong() bool { return g.r.Intn(g.odd) == 0 }

func (g *grower) one(l ...string) string { return l[g.r.Intn(len(l))] }

func (g *grower) name() string { return g.one("a", "b", "c", "d", "e") }

func (g *grower) next() int {
	g.place++
	return g.place
}

// within grows an expression with more names bound.
func (g *grower) within(names ...string) api.Expr {
	had := len(g.bound)
	g.bound = append(g.bound, names...)
	e := g.expr()
	g.bound = g.bound[:had]
	return e
}

func (g *grower) expr() api.Expr {
	g.room--
	e := api.Expr{At: g.next()}
	kinds := 10
	if g.room <= 0 {
		kinds = 2
	}
	switch e.Kind = 1 + g.r.Intn(kinds); e.Kind {
	case api.ExVar:
		if len(g.bound) == 0 && !g.wrong() {
			return api.Expr{Kind: api.ExInt, N: g.r.Intn(3), At: e.At}
		}
		e.Name = g.one(append([]string{g.name()}, g.bound...)...)
		if !g.wrong() && len(g.bound) > 0 {
			e.Name = g.one(g.bound...)
		}
	case api.ExInt:
		e.N = g.r.Intn(5) - 2
	case api.ExFun:
		e.Name = g.name()
		e.Args = []api.Expr{g.within(e.Name)}
	case api.ExApp:
		e.Args = []api.Expr{g.expr(), g.expr()}
	case api.ExLet:
		e.Name = g.name()
		e.Args = []api.Expr{g.expr(), g.within(e.Name)}
	case api.ExRec:
		e.Name, e.Param = g.name(), g.name()
		e.Args = []api.Expr{g.within(e.Name, e.Param), g.within(e.Name)}
	case api.ExCase:
		e.Args = []api.Expr{g.expr()}
		for range 1 + g.r.Intn(3) {
			var names []string
			e.Pats = append(e.Pats, g.pat(&names))
			e.Args = append(e.Args, g.within(names...))
		}
	case api.ExCon:
		name, args := g.con()
		e.Name = name
		for range args {
			e.Args = append(e.Args, g.expr())
		}
	case api.ExPrim:
		e.Name = g.one("+", "-", "*", "/", "%", "<", "==")
		e.Args = []api.Expr{g.expr(), g.expr()}
	case api.ExPrint:
		e.Args = []api.Expr{g.expr()}
	}
	g.spoil(&e)
	return e
}

// spoil now and then makes an expression one that does not come of parse.
func (g *grower) spoil(e *api.Expr) {
	if !g.wrong() || !g.wrong() {
		return
	}
	switch g.r.Intn(5) {
	case 0:
		e.Kind = g.r.Intn(14) - 1
	case 1:
		e.Args = append(e.Args, g.expr())
	case 2:
		e.Args = e.Args[:g.r.Intn(len(e.Args)+1)]
	case 3:
		e.Pats = append(e.Pats, g.pat(&[]string{}))
	case 4:
		e.Name = g.name()
	}
}

// con tells a constructor and how many arguments it has.
func (g *grower) con() (string, int) {
	l := slices.Concat(three, g.decls)
	d := l[g.r.Intn(len(l))]
	name, args := "Nope", 0
	if len(d.Cons) > 0 {
		c := d.Cons[g.r.Intn(len(d.Cons))]
		name, args = c.Name, len(c.Fields)
	}
	if g.wrong() {
		args = max(0, args+g.r.Intn(3)-1)
	}
	if g.wrong() {
		name = g.one("Nope", "Unit", "Cons", "A0")
	}
	return name, args
}

func (g *grower) pat(names *[]string) api.Pat {
	g.room--
	p := api.Pat{At: g.next(), Kind: 1 + g.r.Intn(4)}
	if g.room < 0 && p.Kind == api.PatCon {
		p.Kind = api.PatAny
	}
	switch p.Kind {
	case api.PatVar:
		p.Name = g.name()
		for slices.Contains(*names, p.Name) && !g.wrong() {
			p.Name += "x"
		}
		*names = append(*names, p.Name)
	case api.PatInt:
		p.N = g.r.Intn(3)
	case api.PatCon:
		name, args := g.con()
		p.Name = name
		for range args {
			p.Args = append(p.Args, g.pat(names))
		}
	}
	if g.wrong() && g.wrong() {
		p.Kind = g.r.Intn(8) - 1
	}
	return p
}

func (g *grower) typ(params []string) api.Type {
	g.room--
	x := api.Type{Kind: 1 + g.r.Intn(4)}
	if g.room <= 0 {
		x.Kind = api.TyInt
	}
	switch {
	case x.Kind == api.TyVar && len(params) == 0 && !g.wrong():
		x.Kind = api.TyInt
	case x.Kind == api.TyVar:
		x.Name = g.one(append([]string{g.name()}, params...)...)
		if len(params) > 0 && !g.wrong() {
			x.Name = g.one(params...)
		}
	case x.Kind == api.TyFun:
		x.Args = []api.Type{g.typ(params), g.typ(params)}
	case x.Kind == api.TyCon:
		l := slices.Concat(three, g.decls)
		d := l[g.r.Intn(len(l))]
		x.Name = d.Name
		args := len(d.Params)
		if g.wrong() {
			args = max(0, args+g.r.Intn(3)-1)
		}
		if g.wrong() {
			x.Name = g.one("t0", "t9", "list", "unit")
		}
		for range args {
			x.Args = append(x.Args, g.typ(params))
		}
	}
	return x
}

func (g *grower) grow() api.Program {
	odd, room := g.odd, g.room
	// Where a type has a fault, none of Main is told.
	if g.r.Intn(2) == 0 {
		g.odd = 1 << 30
	}
	g.growDecls()
	g.odd, g.room = odd, room
	return api.Program{Decls: g.decls, Main: g.expr()}
}

// growDecls names all types ahead of their fields, so that those may be of any of them.
func (g *grower) growDecls() {
	cons := 0
	for i := range g.r.Intn(4) {
		d := api.Decl{Name: fmt.Sprint("t", i), At: g.next()}
		if g.wrong() {
			d.Name = g.one("t0", "t1", "t2", "int", "unit", "bool", "list")
		}
		for range g.r.Intn(4) {
			name := g.name()
			for slices.Contains(d.Params, name) && !g.wrong() {
				name += "x"
			}
			d.Params = append(d.Params, name)
		}
		for range 1 + g.r.Intn(3) {
			name := fmt.Sprint("A", cons)
			if g.wrong() {
				name = g.one("A0", "A1", "A2", "A3", "True", "Cons")
			}
			d.Cons = append(d.Cons, api.Con{Name: name, Fields: make([]api.Type, g.r.Intn(4))})
			cons++
		}
		g.decls = append(g.decls, d)
	}
	for _, d := range g.decls {
		for _, c := range d.Cons {
			for k := range c.Fields {
				c.Fields[k] = g.typ(d.Params)
			}
		}
	}
}

func TestGrown(t *testing.T) {
	r := rand.New(rand.NewSource(14))
	counts := map[api.Errno]int{}
	places := map[int]int{}
	for i := range 30000 {
		g := &grower{r: r, room: 1 + r.Intn(60), odd: []int{1 << 30, 200, 20, 5}[i%4]}
		got := checkAll(t, g.grow())
		if g.odd == 1<<30 && got != (api.Fault{}) {
			t.Fatalf("%v, though nothing is wrong", got)
		}
		counts[got.Code]++
		places[got.At]++
	}
	for code, least := range map[api.Errno]int{api.OK: 10000, api.ErrArg: 500, api.ErrDecl: 2000, api.ErrScope: 1500} {
		if counts[code] < least {
			t.Errorf("%v: %d", code, counts[code])
		}
	}
	if len(places) < 50 {
		t.Errorf("%d places", len(places))
	}
}

// TestRenamed: names other than those that stand there change no fault, as long as no two become one.
func TestRenamed(t *testing.T) {
	r := rand.New(rand.NewSource(41))
	for range 3000 {
		g := &grower{r: r, room: 1 + r.Intn(40), odd: 30}
		p := g.grow()
		// A z ahead may make a name of what is none.
		if want, got := Check(p), Check(api.Program{Decls: p.Decls, Main: renamed(p.Main)}); got != want && want.Code != api.ErrArg {
			t.Fatalf("%v, not %v: %.500s", got, want, fmt.Sprint(p))
		}
		var want []string
		for _, s := range Free(p.Main) {
			want = append(want, "z"+s)
		}
		if got := Free(renamed(p.Main)); !slices.Equal(got, want) {
			t.Fatalf("%q, not %q: %.500s", got, want, fmt.Sprint(p))
		}
	}
}

// renamed is the expression with a z ahead of each name that is bound, or wants to be.
func renamed(e api.Expr) api.Expr {
	out := e
	out.Args, out.Pats = nil, nil
	switch e.Kind {
	case api.ExRec:
		out.Param = "z" + e.Param
		fallthrough
	case api.ExVar, api.ExFun, api.ExLet:
		out.Name = "z" + e.Name
	}
	for _, x := range e.Args {
		out.Args = append(out.Args, renamed(x))
	}
	for _, p := range e.Pats {
		out.Pats = append(out.Pats, renamedPat(p))
	}
	return out
}

func renamedPat(p api.Pat) api.Pat {
	out := p
	out.Args = nil
	if p.Kind == api.PatVar {
		out.Name = "z" + p.Name
	}
	for _, x := range p.Args {
		out.Args = append(out.Args, renamedPat(x))
	}
	return out
}

func FuzzGrown(f *testing.F) {
	for i := range 20 {
		f.Add(int64(i), 10*i, 1+i*i)
	}
	f.Fuzz(func(t *testing.T, seed int64, room, odd int) {
		g := &grower{r: rand.New(rand.NewSource(seed)), room: min(room, 2000), odd: max(2, odd)}
		checkAll(t, g.grow())
	})
}

func FuzzTexts(f *testing.F) {
	for _, s := range samples() {
		f.Add(s)
	}
	f.Fuzz(func(t *testing.T, s string) {
		// Of a text that is refused there is an empty program.
		p, _, _ := parse.Parse(s)
		checkAll(t, p)
	})
}
