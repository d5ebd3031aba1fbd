package infer

import (
	"slices"
	"strconv"

	"athanor/api"
	"athanor/parse"
	"athanor/scope"
)

// A second reading of the chapter. Types are nodes that point at one another, and what is bound is a chain of links; what is wrong is thrown.

// node is a node of a type. Of a variable, to is what it is bound to.
type node struct {
	kind int
	name string
	args []*node
	to   *node
}

func intNode() *node { return &node{kind: api.TyInt} }

func varNode() *node { return &node{kind: api.TyVar} }

func funNode(a, b *node) *node { return &node{kind: api.TyFun, args: []*node{a, b}} }

func conNode(name string, l ...*node) *node { return &node{kind: api.TyCon, name: name, args: l} }

func (n *node) head() *node {
	for n.to != nil {
		if n.to.to != nil {
			n.to = n.to.to
		}
		n = n.to
	}
	return n
}

// inOrder is the nodes of a type, a node ahead of its args, written out or as they stand; no more than one too much.
func inOrder(n *node, out bool) []*node {
	var l []*node
	for rest := []*node{n}; len(rest) > 0 && len(l) <= api.MaxTypes; {
		x := rest[len(rest)-1]
		rest = rest[:len(rest)-1]
		if out {
			x = x.head()
		}
		l = append(l, x)
		for i := len(x.args) - 1; i >= 0; i-- {
			rest = append(rest, x.args[i])
		}
	}
	return l
}

func tooLarge(n *node, out bool) bool { return len(inOrder(n, out)) > api.MaxTypes }

// thrown is what is wrong first.
type thrown api.Fault

func throw(err api.Errno, at int) { panic(thrown{Code: err, At: at}) }

// unify is Unify of chapter 15, with a list of the pairs that are still to be looked at.
func unify(a, b *node, at int) {
	if tooLarge(a, false) || tooLarge(b, false) {
		throw(api.ErrArg, at)
	}
	looked := 0
	for rest := [][2]*node{{a, b}}; len(rest) > 0; {
		x, y := rest[len(rest)-1][0].head(), rest[len(rest)-1][1].head()
		rest = rest[:len(rest)-1]
		if looked++; looked > api.MaxWork {
			throw(api.ErrMany, at)
		}
		switch {
		case x == y && x.kind == api.TyVar:
		case x.kind == api.TyVar:
			bind(x, y, at)
		case y.kind == api.TyVar:
			bind(y, x, at)
		case x.kind != y.kind || x.name != y.name || len(x.args) != len(y.args):
			throw(api.ErrUnify, at)
		default:
			for i := len(x.args) - 1; i >= 0; i-- {
				rest = append(rest, [2]*node{x.args[i], y.args[i]})
			}
		}
	}
}

func bind(v, n *node, at int) {
	for i, x := range inOrder(n, true) {
		if i == api.MaxTypes {
			throw(api.ErrMany, at)
		}
		if x == v {
			throw(api.ErrOccurs, at)
		}
	}
	v.to = n
}

// around is a name that is bound, and what is bound around it.
type around struct {
	name string
	t    *node
	open map[*node]bool
	more *around
}

// allIn puts all variables that stand in a node into the map, but for those that are open.
func allIn(vars, seen, open map[*node]bool, n *node) {
	if n = n.head(); seen[n] {
		return
	}
	seen[n] = true
	if n.kind == api.TyVar && !open[n] {
		vars[n] = true
	}
	for _, x := range n.args {
		allIn(vars, seen, open, x)
	}
}

// copied is a type written out, with others in the place of some variables.
func copied(n *node, stand map[*node]*node) *node {
	n = n.head()
	if n.kind == api.TyVar {
		if x := stand[n]; x != nil {
			return x
		}
		return n
	}
	out := &node{kind: n.kind, name: n.name}
	for _, x := range n.args {
		out.args = append(out.args, copied(x, stand))
	}
	return out
}

// polymorphic binds a name to the scheme of a type.
func (a *around) polymorphic(name string, n *node, at int) *around {
	if tooLarge(n, true) {
		throw(api.ErrMany, at)
	}
	closed, own, open := map[*node]bool{}, map[*node]bool{}, map[*node]bool{}
	for x := a; x != nil; x = x.more {
		allIn(closed, map[*node]bool{}, x.open, x.t)
	}
	allIn(own, map[*node]bool{}, nil, n)
	for v := range own {
		if !closed[v] {
			open[v] = true
		}
	}
	return &around{name, copied(n, nil), open, a}
}

func (a *around) alike(name string, n *node) *around {
	return &around{name, n, nil, a}
}

// use is a bound name's type, with fresh variables for the open ones; its nodes are those that it had when it was bound.
func (a *around) use(name string) *node {
	for ; a != nil; a = a.more {
		if a.name == name {
			stand := map[*node]*node{}
			for v := range a.open {
				stand[v] = varNode()
			}
			return asItStood(a.t, stand)
		}
	}
	panic("a name that is not bound: " + name)
}

func asItStood(n *node, stand map[*node]*node) *node {
	if x := stand[n]; x != nil {
		return x
	}
	if n.kind == api.TyVar {
		return n
	}
	out := &node{kind: n.kind, name: n.name}
	for _, x := range n.args {
		out.args = append(out.args, asItStood(x, stand))
	}
	return out
}

// plainReader has the types that there are.
type plainReader struct{ decls []api.Decl }

// made is the type of a constructor with fresh variables, and the constructor's fields with these.
func (r plainReader) made(con string) (*node, []*node) {
	for _, d := range r.decls {
		for _, c := range d.Cons {
			if c.Name == con {
				params := map[string]*node{}
				t := conNode(d.Name)
				for _, s := range d.Params {
					params[s] = varNode()
					t.args = append(t.args, params[s])
				}
				var fields []*node
				for _, f := range c.Fields {
					fields = append(fields, fieldNode(f, params))
				}
				return t, fields
			}
		}
	}
	panic("no constructor: " + con)
}

func fieldNode(f api.Type, params map[string]*node) *node {
	if f.Kind == api.TyVar {
		return params[f.Name]
	}
	out := &node{kind: f.Kind, name: f.Name}
	for _, x := range f.Args {
		out.args = append(out.args, fieldNode(x, params))
	}
	return out
}

func (r plainReader) w(e api.Expr, a *around) *node {
	part := func(i int) *node { return r.w(e.Args[i], a) }
	switch e.Kind {
	case api.ExVar:
		return a.use(e.Name)
	case api.ExInt:
		return intNode()
	case api.ExFun:
		from := varNode()
		return funNode(from, r.w(e.Args[0], a.alike(e.Name, from)))
	case api.ExApp:
		t := part(0)
		u := part(1)
		out := varNode()
		unify(t, funNode(u, out), e.At)
		return out
	case api.ExLet:
		t := part(0)
		return r.w(e.Args[1], a.polymorphic(e.Name, t, e.Args[0].At))
	case api.ExRec:
		from, to := varNode(), varNode()
		f := funNode(from, to)
		t := r.w(e.Args[0], a.alike(e.Name, f).alike(e.Param, from))
		unify(t, to, e.Args[0].At)
		return r.w(e.Args[1], a.polymorphic(e.Name, f, e.Args[0].At))
	case api.ExCase:
		t := part(0)
		out := varNode()
		for i, p := range e.Pats {
			within := a
			unify(t, r.pat(p, &within), p.At)
			unify(out, r.w(e.Args[i+1], within), e.Args[i+1].At)
		}
		return out
	case api.ExCon:
		t, fields := r.made(e.Name)
		for i, f := range fields {
			unify(part(i), f, e.Args[i].At)
		}
		return t
	}
	for i := range e.Args {
		unify(part(i), intNode(), e.Args[i].At)
	}
	switch e.Name {
	case "<", "==":
		return conNode("bool")
	case "":
		return conNode("unit")
	}
	return intNode()
}

func (r plainReader) pat(p api.Pat, a **around) *node {
	switch p.Kind {
	case api.PatInt:
		return intNode()
	case api.PatCon:
		t, fields := r.made(p.Name)
		for i, x := range p.Args {
			unify(r.pat(x, a), fields[i], x.At)
		}
		return t
	}
	v := varNode()
	if p.Kind == api.PatVar {
		*a = (*a).alike(p.Name, v)
	}
	return v
}

// withFunctions is the names of the types that have a function in a field, or in that of another one there: asked again and again, until there are no more of them.
func (r plainReader) withFunctions() []string {
	var bad []string
	for again := true; again; {
		again = false
		for _, d := range r.decls {
			for _, c := range d.Cons {
				if !slices.Contains(bad, d.Name) && slices.ContainsFunc(c.Fields, func(f api.Type) bool { return hasOneOf(f, bad) }) {
					bad, again = append(bad, d.Name), true
				}
			}
		}
	}
	return bad
}

func hasOneOf(t api.Type, bad []string) bool {
	return t.Kind == api.TyFun || t.Kind == api.TyCon && slices.Contains(bad, t.Name) || slices.ContainsFunc(t.Args, func(x api.Type) bool { return hasOneOf(x, bad) })
}

// plainMain is what a program's type is, or what is wrong with it.
func (r plainReader) plainMain(t *node, at int) api.Type {
	if tooLarge(t, true) {
		throw(api.ErrMany, at)
	}
	result := varNode()
	t = copied(t, nil)
	func() {
		defer func() {
			if recover() != nil {
				throw(api.ErrMain, at)
			}
		}()
		unify(t, funNode(conNode("list", intNode()), result), at)
	}()
	if l := inOrder(result, true); len(l) > api.MaxTypes || slices.ContainsFunc(l, func(n *node) bool {
		return n.kind == api.TyFun || n.kind == api.TyCon && slices.Contains(r.withFunctions(), n.name)
	}) {
		throw(api.ErrMain, at)
	}
	if tooLarge(t, true) {
		throw(api.ErrMany, at)
	}
	return told(t, map[*node]string{})
}

// told is a type with its variables named in the order of their first places.
func told(n *node, known map[*node]string) api.Type {
	n = n.head()
	if n.kind == api.TyVar {
		if known[n] == "" {
			known[n] = letter(len(known))
		}
		return api.Type{Kind: api.TyVar, Name: known[n]}
	}
	out := api.Type{Kind: n.kind, Name: n.name}
	for _, x := range n.args {
		out.Args = append(out.Args, told(x, known))
	}
	return out
}

// letter is the name of the variable i.
func letter(i int) string {
	s := "abcdefghijklmnopqrstuvwxyz"[i%26 : i%26+1]
	if i >= 26 {
		s += strconv.Itoa(i / 26)
	}
	return s
}

func plainInfer(p api.Program) (t api.Type, fault api.Fault) {
	if fault := scope.Check(p); fault != (api.Fault{}) {
		return api.Type{}, fault
	}
	defer func() {
		if x, ok := recover().(thrown); ok {
			t, fault = api.Type{}, api.Fault(x)
		}
	}()
	r := plainReader{decls: slices.Concat(three, p.Decls)}
	return r.plainMain(r.w(p.Main, nil), p.Main.At), api.Fault{}
}

// three is the types of every program, as a program would declare them.
var three = mustRead("type unit = Unit; type bool = False | True; type list 'a = Nil | Cons 'a (list 'a); 1").Decls

func mustRead(s string) api.Program {
	p, at, err := parse.Parse(s)
	if err != api.OK {
		panic(s + ": " + err.Error() + " at " + strconv.Itoa(at))
	}
	return p
}
