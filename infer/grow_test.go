package infer

import (
	"fmt"
	"math/rand"
	"slices"

	"athanor/api"
)

// known is a name that is bound, and a type that it has; of those variables of it that are free anything may be in the place.
type known struct {
	name string
	t    api.Type
	free []string
}

// grower grows programs by chance, of the types that are asked for; now and then something is of another type.
type grower struct {
	r     *rand.Rand
	room  int
	odd   int // one of so many things is of another type
	bound []known
	decls []api.Decl
	all   []api.Decl
	rigid int
	place int
}

func (g *grower) chance(n int) bool { return g.r.Intn(n) == 0 }

func (g *grower) next() int {
	g.place += 1 + g.r.Intn(3)
	return g.place
}

// name is one that may be bound already.
func (g *grower) name() string { return string(rune('a' + g.r.Intn(8))) }

func variable(name string) api.Type { return api.Type{Kind: api.TyVar, Name: name} }

// typ grows a type, with variables that stand for no other type around, if there are any.
func (g *grower) typ(depth int) api.Type {
	switch k := g.r.Intn(10); {
	case depth == 0 || k < 2:
		return integer()
	case k < 4 && g.rigid > 0:
		return variable(fmt.Sprint("r", g.r.Intn(g.rigid)))
	case k < 6:
		return function(g.typ(depth-1), g.typ(depth-1))
	}
	d := g.all[g.r.Intn(len(g.all))]
	return g.ofDecl(d, depth-1)
}

func (g *grower) ofDecl(d api.Decl, depth int) api.Type {
	t := declared(d.Name)
	for range d.Params {
		t.Args = append(t.Args, g.typ(depth))
	}
	return t
}

// matches notes what stands in the place of the free variables of a pattern, if the type is such a one.
func matches(pattern, t api.Type, free []string, stand map[string]api.Type) bool {
	if pattern.Kind == api.TyVar && slices.Contains(free, pattern.Name) {
		if was, ok := stand[pattern.Name]; ok {
			return alike(was, t)
		}
		stand[pattern.Name] = t
		return true
	}
	if pattern.Kind != t.Kind || pattern.Name != t.Name || len(pattern.Args) != len(t.Args) {
		return false
	}
	for i := range t.Args {
		if !matches(pattern.Args[i], t.Args[i], free, stand) {
			return false
		}
	}
	return true
}

// filledIn is a type with others in the place of its free variables, grown ones if there are none.
func (g *grower) filledIn(t api.Type, free []string, stand map[string]api.Type) api.Type {
	return exchanged(t, func(v api.Type) api.Type {
		if !slices.Contains(free, v.Name) {
			return v
		}
		if _, ok := stand[v.Name]; !ok {
			stand[v.Name] = g.typ(1)
		}
		return stand[v.Name]
	})
}

// within grows an expression with more names bound.
func (g *grower) within(want api.Type, names ...known) api.Expr {
	had := len(g.bound)
	g.bound = append(g.bound, names...)
	e := g.expr(want)
	g.bound = g.bound[:had]
	return e
}

// visible is the names that are bound, of several alike the last.
func (g *grower) visible() []known {
	var l []known
	for i := len(g.bound) - 1; i >= 0; i-- {
		if !slices.ContainsFunc(l, func(k known) bool { return k.name == g.bound[i].name }) {
			l = append(l, g.bound[i])
		}
	}
	return l
}

// used tells a name of that type, or one that is called until it is of that type, with its arguments.
func (g *grower) used(want api.Type) (api.Expr, bool) {
	l := g.visible()
	g.r.Shuffle(len(l), func(i, j int) { l[i], l[j] = l[j], l[i] })
	for _, k := range l {
		var args []api.Type
		for t := k.t; ; t = t.Args[1] {
			stand := map[string]api.Type{}
			if matches(t, want, k.free, stand) {
				e := at(g.next(), name(k.name))
				for _, a := range args {
					e = at(e.At, app(e, g.expr(g.filledIn(a, k.free, stand))))
				}
				return e, true
			}
			if t.Kind != api.TyFun || g.room <= 0 {
				break
			}
			args = append(args, t.Args[0])
		}
	}
	return api.Expr{}, false
}

// small is an expression of a type that needs no room, if there is one.
func (g *grower) small(want api.Type) api.Expr {
	if e, ok := g.used(want); ok {
		return e
	}
	switch want.Kind {
	case api.TyInt:
		return at(g.next(), api.Expr{Kind: api.ExInt, N: g.r.Intn(9) - 4})
	case api.TyFun:
		s := g.name()
		return at(g.next(), fun(s, g.within(want.Args[1], known{s, want.Args[0], nil})))
	case api.TyCon:
		g.room--
		if g.room > -60 && !g.chance(4) {
			return at(g.next(), g.made(want))
		}
		for _, d := range g.all {
			for _, c := range d.Cons {
				if d.Name == want.Name && len(c.Fields) == 0 {
					return at(g.next(), con(c.Name))
				}
			}
		}
	}
	// What never comes to an end is of any type.
	at := g.next()
	return api.Expr{Kind: api.ExRec, Name: "f", Param: "x", At: at, Args: []api.Expr{app(name("f"), name("x")), app(name("f"), one)}}
}

func (g *grower) expr(want api.Type) api.Expr {
	g.room--
	if g.chance(g.odd) {
		want = g.typ(2)
	}
	if g.room <= 0 {
		return g.small(want)
	}
	place := g.next()
	switch g.r.Intn(11) {
	case 0, 1:
		if e, ok := g.used(want); ok {
			return e
		}
	case 2:
		from := g.typ(2)
		return at(place, app(g.expr(function(from, want)), g.expr(from)))
	case 3, 4:
		first, k := g.binding()
		return at(place, let(k.name, first, g.within(want, k)))
	case 5:
		return at(place, g.rec(want))
	case 6, 7:
		return at(place, g.cases(want))
	case 8:
		unit := patAt(g.next(), pcon("Unit"))
		return at(place, cased(at(place, printed(g.expr(integer()))), []api.Pat{unit}, g.expr(want)))
	}
	return at(place, g.ofKind(want))
}

// ofKind is an expression that makes what it is of.
func (g *grower) ofKind(want api.Type) api.Expr {
	switch want.Kind {
	case api.TyInt:
		return prim([]string{"+", "-", "*", "/", "%"}[g.r.Intn(5)], g.expr(want), g.expr(want))
	case api.TyFun:
		s := g.name()
		return fun(s, g.within(want.Args[1], known{s, want.Args[0], nil}))
	case api.TyCon:
		if want.Name == "bool" && g.chance(2) {
			return prim([]string{"<", "=="}[g.r.Intn(2)], g.expr(integer()), g.expr(integer()))
		}
		return g.made(want)
	}
	return g.small(want)
}

// made is what a constructor makes.
func (g *grower) made(want api.Type) api.Expr {
	c, fields := g.con(want)
	e := con(c)
	for _, f := range fields {
		e.Args = append(e.Args, g.expr(f))
	}
	return e
}

// con tells a constructor of a declared type, and its fields.
func (g *grower) con(t api.Type) (string, []api.Type) {
	for _, d := range g.all {
		if d.Name != t.Name {
			continue
		}
		c := d.Cons[g.r.Intn(len(d.Cons))]
		stand := map[string]api.Type{}
		for i, s := range d.Params {
			stand[s] = t.Args[i]
		}
		var fields []api.Type
		for _, f := range c.Fields {
			fields = append(fields, g.filledIn(f, d.Params, stand))
		}
		return c.Name, fields
	}
	panic("no type: " + t.Name)
}

// binding grows what is bound to a name, with some variables of its own.
func (g *grower) binding() (api.Expr, known) {
	had := g.rigid
	g.rigid += g.r.Intn(3)
	var free []string
	for i := had; i < g.rigid; i++ {
		free = append(free, fmt.Sprint("r", i))
	}
	t := g.typ(3)
	e := g.expr(t)
	g.rigid = had
	return e, known{g.name(), t, free}
}

func (g *grower) rec(want api.Type) api.Expr {
	had := g.rigid
	g.rigid += g.r.Intn(3)
	var free []string
	for i := had; i < g.rigid; i++ {
		free = append(free, fmt.Sprint("r", i))
	}
	from, to := g.typ(2), g.typ(2)
	f, param := g.name(), g.name()
	first := g.within(to, known{f, function(from, to), nil}, known{param, from, nil})
	g.rigid = had
	return rec(f, param, first, g.within(want, known{f, function(from, to), free}))
}

func (g *grower) cases(want api.Type) api.Expr {
	t := g.typ(2)
	e := cased(g.expr(t), nil)
	for range 1 + g.r.Intn(3) {
		var names []known
		e.Pats = append(e.Pats, g.pat(t, 3, &names))
		e.Args = append(e.Args, g.within(want, names...))
	}
	return e
}

func (g *grower) pat(want api.Type, depth int, names *[]known) api.Pat {
	g.room--
	if g.chance(g.odd) {
		want = g.typ(1)
	}
	place := g.next()
	switch {
	case want.Kind == api.TyInt && g.chance(2):
		return patAt(place, pint(g.r.Intn(5)-2))
	case want.Kind == api.TyCon && depth > 0 && !g.chance(3):
		c, fields := g.con(want)
		p := patAt(place, pcon(c))
		for _, f := range fields {
			p.Args = append(p.Args, g.pat(f, depth-1, names))
		}
		return p
	case g.chance(3):
		return patAt(place, none)
	}
	s := g.name()
	for slices.ContainsFunc(*names, func(k known) bool { return k.name == s }) {
		s += "x"
	}
	*names = append(*names, known{s, want, nil})
	return patAt(place, pvar(s))
}

// declTexts is types that grown programs may have.
func declTexts() []string {
	return []string{"type p 'a 'b = P 'a 'b", "type o 'a = O 'a | Z", "type s = S int s | T", "type f 'a = F ('a -> 'a) 'a | G", "type tree 'a 'b = Leaf 'b | Node (tree 'a 'b) 'a (tree 'a 'b)", "type q 'a 'b 'c = Q 'c 'a (list 'a) | R", "type ph 'a = Ph", "type m 'a = M (p 'a (o (p 'a 'a))) | W", "type v = V (list (p int bool)) (int -> int) | U"}
}

func (g *grower) growDecls() {
	// The pairs stand in another one's fields.
	s := declTexts()[0] + "; " + declTexts()[1] + "; "
	for _, d := range declTexts()[2:] {
		if g.chance(3) {
			s += d + "; "
		}
	}
	g.decls = mustRead(s + "1").Decls
	g.all = slices.Concat(three, g.decls)
}

// result is a type without functions, mostly one with arguments.
func (g *grower) result() api.Type {
	for {
		t := g.typ(4)
		if len(t.Args) == 0 && !g.chance(5) {
			continue
		}
		if !hasOneOf(t, []string{"f", "v"}) {
			return t
		}
	}
}

// grow grows a program, of the type that a program must have, or now and then of another.
func (g *grower) grow() api.Program {
	g.growDecls()
	want := function(declared("list", integer()), g.result())
	if g.odd < 1000 && g.chance(5) {
		want = g.typ(3)
	}
	return api.Program{Decls: g.decls, Main: g.expr(want)}
}
