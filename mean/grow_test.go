package mean

import (
	"math/rand"
	"slices"

	"athanor/api"
	"athanor/scope"
)

// known is a name that is bound, and its type.
type known struct {
	name string
	t    api.Type
}

// grower grows programs by chance, of the types that are asked for; most of them come to an end.
type grower struct {
	r     *rand.Rand
	room  int
	bound []known
	decls []api.Decl
	all   []api.Decl
}

const grownDecls = "type p 'a 'b = P 'a 'b; type o 'a = Z | O 'a; type tree 'a = L | N (tree 'a) 'a (tree 'a); type c = R | G int | B c c; type w 'a = W 'a (list 'a) 'a (o 'a) | V; "

func newGrower(r *rand.Rand, room int) *grower {
	p := mustRead(grownDecls + "1")
	return &grower{r: r, room: room, decls: p.Decls, all: scope.All(p)}
}

func (g *grower) chance(n int) bool { return g.r.Intn(n) == 0 }

// name is one that may be bound already.
func (g *grower) name() string { return string(rune('a' + g.r.Intn(8))) }

func tInt() api.Type { return api.Type{Kind: api.TyInt} }

func tCon(name string, args ...api.Type) api.Type {
	return api.Type{Kind: api.TyCon, Name: name, Args: args}
}

func tFun(from, to api.Type) api.Type {
	return api.Type{Kind: api.TyFun, Args: []api.Type{from, to}}
}

func sameType(a, b api.Type) bool {
	return a.Kind == b.Kind && a.Name == b.Name && slices.EqualFunc(a.Args, b.Args, sameType)
}

// data grows a type without functions.
func (g *grower) data(depth int) api.Type {
	if depth == 0 || g.chance(3) {
		return tInt()
	}
	d := g.all[g.r.Intn(len(g.all))]
	var args []api.Type
	for range d.Params {
		args = append(args, g.data(depth-1))
	}
	return tCon(d.Name, args...)
}

func (g *grower) typ(depth int) api.Type {
	if depth == 0 || g.chance(3) {
		return g.data(depth)
	}
	if g.chance(2) {
		return tFun(g.typ(depth-1), g.typ(depth-1))
	}
	return tCon([]string{"o", "list", "tree", "w"}[g.r.Intn(4)], g.typ(depth-1))
}

// filled is a field's type, with types in the place of its parameters.
func filled(t api.Type, params []string, args []api.Type) api.Type {
	if t.Kind == api.TyVar {
		return args[slices.Index(params, t.Name)]
	}
	out := t
	out.Args = nil
	for _, x := range t.Args {
		out.Args = append(out.Args, filled(x, params, args))
	}
	return out
}

// con tells a constructor of a type, and its fields.
func (g *grower) con(t api.Type, which func(n int) int) (string, []api.Type) {
	i := slices.IndexFunc(g.all, func(d api.Decl) bool { return d.Name == t.Name })
	d := g.all[i]
	c := d.Cons[which(len(d.Cons))]
	var fields []api.Type
	for _, f := range c.Fields {
		fields = append(fields, filled(f, d.Params, t.Args))
	}
	return c.Name, fields
}

// within grows an expression with more names bound.
func (g *grower) within(want api.Type, names ...known) api.Expr {
	had := len(g.bound)
	g.bound = append(slices.Clip(g.bound), names...)
	e := g.expr(want)
	g.bound = g.bound[:had]
	return e
}

// used tells a name of that type, or a call of one that tells that type.
func (g *grower) used(want api.Type, calls bool) (api.Expr, bool) {
	var fit []known
	seen := map[string]bool{}
	for i := len(g.bound) - 1; i >= 0; i-- {
		k := g.bound[i]
		if !seen[k.name] && (sameType(k.t, want) || calls && k.t.Kind == api.TyFun && sameType(k.t.Args[1], want)) {
			fit = append(fit, k)
		}
		seen[k.name] = true
	}
	if len(fit) == 0 {
		return api.Expr{}, false
	}
	k := fit[g.r.Intn(len(fit))]
	e := xVar(k.name)
	if i := slices.IndexFunc(fit, func(k known) bool { return !sameType(k.t, want) }); i >= 0 && g.chance(2) {
		k, e = fit[i], xVar(fit[i].name)
	}
	if !sameType(k.t, want) {
		e = xApp(e, g.expr(k.t.Args[0]))
	}
	return e, true
}

// small is an expression that needs no room.
func (g *grower) small(want api.Type) api.Expr {
	if e, ok := g.used(want, false); ok && !g.chance(5) {
		return e
	}
	switch want.Kind {
	case api.TyInt:
		return xInt(g.number())
	case api.TyFun:
		s := g.name()
		g.bound = append(g.bound, known{s, want.Args[0]})
		body := g.small(want.Args[1])
		g.bound = g.bound[:len(g.bound)-1]
		return xFun(s, body)
	}
	// The first constructor of each has no field that is of its own type.
	which := func(int) int { return 0 }
	if g.room--; g.room > -40 && g.chance(2) {
		which = g.r.Intn
	}
	name, fields := g.con(want, which)
	e := xCon(name)
	for _, f := range fields {
		e.Args = append(e.Args, g.small(f))
	}
	return e
}

func (g *grower) number() int {
	if g.chance(20) {
		return []int{1<<30 - 1, -1 << 30, 65536, -65536, 1 << 20}[g.r.Intn(5)]
	}
	return g.r.Intn(9) - 2
}

func (g *grower) expr(want api.Type) api.Expr {
	g.room--
	if g.room <= 0 {
		return g.small(want)
	}
	switch g.r.Intn(14) {
	case 0, 1, 2:
		if e, ok := g.used(want, true); ok {
			return e
		}
	case 3:
		from, s := g.typ(2), g.name()
		return xApp(xFun(s, g.within(want, known{s, from})), g.expr(from))
	case 4:
		from := g.typ(2)
		return xApp(g.expr(tFun(from, want)), g.expr(from))
	case 5, 6:
		k := known{g.name(), g.typ(2)}
		return xLet(k.name, g.expr(k.t), g.within(want, k))
	case 7, 8:
		return g.loop(want)
	case 9, 10:
		return g.choice(want)
	case 11:
		return xCase(xPrint(g.expr(tInt())), []api.Pat{qCon("Unit")}, g.expr(want))
	}
	return g.ofKind(want)
}

// ofKind is an expression that makes what it is of.
func (g *grower) ofKind(want api.Type) api.Expr {
	switch want.Kind {
	case api.TyInt:
		signs := "++-*/%"
		return xPrim(string(signs[g.r.Intn(len(signs))]), g.expr(want), g.expr(want))
	case api.TyFun:
		s := g.name()
		return xFun(s, g.within(want.Args[1], known{s, want.Args[0]}))
	}
	if want.Name == "bool" && !g.chance(3) {
		return xPrim([]string{"<", "=="}[g.r.Intn(2)], g.expr(tInt()), g.expr(tInt()))
	}
	if want.Name == "unit" && g.chance(2) {
		return xPrint(g.expr(tInt()))
	}
	name, fields := g.con(want, g.r.Intn)
	e := xCon(name)
	for _, f := range fields {
		e.Args = append(e.Args, g.expr(f))
	}
	return e
}

// loop is an ExRec whose function mostly goes down its argument, and what calls it.
func (g *grower) loop(want api.Type) api.Expr {
	f, param, to := g.name(), g.name(), g.typ(2)
	from := []api.Type{tInt(), tCon("list", g.data(1)), tCon("tree", g.data(1))}[g.r.Intn(3)]
	// What is of no type is only hidden by it.
	self, hidden, arg := known{f, tFun(from, to)}, known{name: f}, known{param, from}
	var body api.Expr
	switch {
	case f == param || g.chance(4):
		body = g.within(to, self, arg)
	case from.Kind == api.TyInt:
		less := xPrim("-", xVar(param), xInt(1))
		v := known{g.name(), to}
		step := g.wrote(xLet(v.name, xApp(xVar(f), less), g.within(to, hidden, arg, v)))
		body = xCase(xPrim("<", xVar(param), xInt(1)), []api.Pat{qCon("True"), qCon("False")}, g.within(to, hidden, arg), step)
	default:
		body = g.down(f, arg, to)
	}
	had := g.bound
	g.bound = append(slices.Clip(g.bound), self)
	// It is called, whether or not it is so within.
	v := known{g.name(), to}
	rest := xLet(v.name, xApp(xVar(f), g.expr(from)), g.within(want, v))
	g.bound = had
	return api.Expr{Kind: api.ExRec, Name: f, Param: param, Args: []api.Expr{body, rest}}
}

// wrote writes something ahead of an expression, now and then.
func (g *grower) wrote(e api.Expr) api.Expr {
	if !g.chance(3) {
		return e
	}
	return xCase(xPrint(xInt(g.number())), []api.Pat{qCon("Unit")}, e)
}

// down is the body of a function that calls itself with those parts of a list or a tree that are of its type.
func (g *grower) down(f string, arg known, to api.Type) api.Expr {
	last, fields := g.con(arg.t, func(n int) int { return n - 1 })
	first, _ := g.con(arg.t, func(int) int { return 0 })
	hidden := known{name: f}
	names := []known{hidden, arg}
	p := qCon(last)
	var parts []string
	for i, t := range fields {
		s := string(rune('s' + i))
		p.Args = append(p.Args, qVar(s))
		names = append(names, known{s, t})
		if sameType(t, arg.t) {
			parts = append(parts, s)
			names = append(names, known{s + s, to})
		}
	}
	step := g.wrote(g.within(to, names...))
	for _, s := range parts {
		step = xLet(s+s, xApp(xVar(f), xVar(s)), step)
	}
	return xCase(xVar(arg.name), []api.Pat{qCon(first), p}, g.within(to, hidden, arg), step)
}

func (g *grower) choice(want api.Type) api.Expr {
	t := g.typ(2)
	e := xCase(g.expr(t), nil)
	for range 1 + g.r.Intn(3) {
		var names []known
		e.Pats = append(e.Pats, g.pat(t, 3, &names))
		e.Args = append(e.Args, g.within(want, names...))
	}
	s := g.name()
	e.Pats = append(e.Pats, qVar(s))
	e.Args = append(e.Args, g.within(want, known{s, t}))
	return e
}

func (g *grower) pat(want api.Type, depth int, names *[]known) api.Pat {
	g.room--
	switch {
	case want.Kind == api.TyInt && g.chance(2):
		return api.Pat{Kind: api.PatInt, N: g.r.Intn(5) - 1}
	case want.Kind == api.TyCon && depth > 0 && !g.chance(3):
		name, fields := g.con(want, g.r.Intn)
		p := qCon(name)
		for _, f := range fields {
			p.Args = append(p.Args, g.pat(f, depth-1, names))
		}
		return p
	case g.chance(3):
		return api.Pat{Kind: api.PatAny}
	}
	s := g.name()
	for slices.ContainsFunc(*names, func(k known) bool { return k.name == s }) {
		s += "x"
	}
	*names = append(*names, known{s, want})
	return qVar(s)
}

// grow grows a program.
func (g *grower) grow() api.Program {
	result := g.data(3)
	for len(result.Args) == 0 && !g.chance(4) {
		result = g.data(3)
	}
	list := tCon("list", tInt())
	if g.chance(4) {
		return api.Program{Decls: g.decls, Main: g.expr(tFun(list, result))}
	}
	return api.Program{Decls: g.decls, Main: xFun("l", g.within(result, known{"l", list}))}
}

// Small things to make others of.

func xVar(s string) api.Expr { return api.Expr{Kind: api.ExVar, Name: s} }

func xInt(n int) api.Expr { return api.Expr{Kind: api.ExInt, N: n} }

func xFun(s string, body api.Expr) api.Expr {
	return api.Expr{Kind: api.ExFun, Name: s, Args: []api.Expr{body}}
}

func xApp(f, a api.Expr) api.Expr { return api.Expr{Kind: api.ExApp, Args: []api.Expr{f, a}} }

func xLet(s string, a, b api.Expr) api.Expr {
	return api.Expr{Kind: api.ExLet, Name: s, Args: []api.Expr{a, b}}
}

func xCon(s string, args ...api.Expr) api.Expr {
	return api.Expr{Kind: api.ExCon, Name: s, Args: args}
}

func xPrim(sign string, a, b api.Expr) api.Expr {
	return api.Expr{Kind: api.ExPrim, Name: sign, Args: []api.Expr{a, b}}
}

func xPrint(a api.Expr) api.Expr { return api.Expr{Kind: api.ExPrint, Args: []api.Expr{a}} }

// xCase is a case; each pattern has the branch at its place.
func xCase(of api.Expr, pats []api.Pat, branches ...api.Expr) api.Expr {
	return api.Expr{Kind: api.ExCase, Args: append([]api.Expr{of}, branches...), Pats: pats}
}

func qVar(s string) api.Pat { return api.Pat{Kind: api.PatVar, Name: s} }

func qCon(s string, args ...api.Pat) api.Pat {
	return api.Pat{Kind: api.PatCon, Name: s, Args: args}
}
